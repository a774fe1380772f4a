/-
  assign: the reference's Perm and Cost of an answer.
-/
import Derived.Test.YtlhpiikpmmlpeaaDoorZr
import Derived.Test.YtlhpiikpmmlpeaaDoorAx
import Derived.Test.YtlhpiikpmmlpeaaDoorKb
namespace Go.Proofs.YtlhpiikpmmlpeaaDoor
open Go.RowKit
set_option linter.unusedVariables false
set_option linter.unusedSimpArgs false
def cnt (x : List Int) (k i : Nat) : Nat := (x.take i).count (k : Int)
theorem cnt_zero (x : List Int) (k : Nat) : cnt x k 0 = 0 := by unfold cnt; simp
theorem cnt_hit (x : List Int) (k i : Nat) (hi : i < x.length) (h : od.nth x i = (k : Int)) : cnt x k (i + 1) = cnt x k i + 1 := by
  unfold cnt
  rw [List.take_succ_eq_append_getElem hi, List.count_append, ← od.nth_at x i hi, h]
  simp
theorem cnt_miss (x : List Int) (k i : Nat) (hi : i < x.length) (h : ¬ od.nth x i = (k : Int)) : cnt x k (i + 1) = cnt x k i := by
  unfold cnt
  rw [List.take_succ_eq_append_getElem hi, List.count_append, ← od.nth_at x i hi]
  rw [List.count_singleton]
  simp [h]
theorem cnt_all (x : List Int) (k : Nat) : cnt x k x.length = x.count (k : Int) := by unfold cnt; rw [List.take_length]
theorem cnt_le (x : List Int) (k i : Nat) (hi : i ≤ x.length) : cnt x k i ≤ i := by
  unfold cnt
  have := List.count_le_length (a := (k : Int)) (l := x.take i)
  simp at this
  omega
attribute [irreducible] cnt
set_option maxHeartbeats 1000000 in
theorem rperm_any (x : List Int) (hk : ∀ k, k < x.length → x.count (k : Int) = 1) (hl : x.length ≤ 1000) (a : Option Addr) (c : Nat) (w : World) (hI : Ints w a x) :
    Calls Tryd.prog 60 #[.slice a x.length c, .int .i64 x.length] w fun e w' => e = .returned (.bool true) ∧ w = w' := by
  have HC := Lib.hid hk
  have H1 := Lib.hid (cnt_hit x)
  have H2 := Lib.hid (cnt_miss x)
  have H0 := Lib.hid (cnt_zero x)
  have HA := Lib.hid (cnt_all x)
  have HL := Lib.hid (cnt_le x)
  have HI : Hid (∀ j, j < x.length → ∃ b o, a = some ⟨b, o, none⟩ ∧ w.cell? ⟨b, o + j, none⟩ = some (.int .i64 (od.nth x j))) := Lib.hid fun j hj => by
    obtain ⟨b, o, e, l1, m1⟩ := hI j hj
    exact ⟨b, o, e, by rw [m1]; unfold od.nth; rfl⟩
  clear hk hI
  generalize x.length = n at *
  go_enter Tryd.func60, Tryd.ntmps60
  go_wp2
  go_loop [5] (fun i => ∃ k : Nat, k ≤ n ∧ i = .int .i64 k) (fun i => n - (intOf i).toNat)
  case atStart => exact ⟨0, by omega, rfl⟩
  case round =>
    obtain ⟨k, hk, rfl⟩ := hrel
    by_cases hlt : k < n
    · go_wp2
      go_loop [6, 7] (fun f i => ∃ j : Nat, j ≤ n ∧ f = .int .i64 (cnt x k j) ∧ i = .int .i64 j) (fun _ i => n - (intOf i).toNat)
      case atStart => exact ⟨0, by omega, by rw [H0.out]; rfl, rfl⟩
      case round =>
        obtain ⟨j, hj, rfl, rfl⟩ := hrel
        by_cases hlt2 : j < n
        · obtain ⟨b1, o1, rfl, hc1⟩ := HI.out j hlt2
          have h1 := Lib.hid (H1.out k j hlt2)
          have h2 := Lib.hid (H2.out k j hlt2)
          have h3 := HL.out k j (by omega)
          generalize od.nth x j = t at *
          by_cases ht : t = (k : Int)
          · have h4 := Lib.hid (h1.out ht)
            subst ht
            clear h1 h2
            generalize cnt x k j = f at *
            go_wp2
            go_round
            case rel => exact ⟨j + 1, by omega, by rw [h4.out]; go_num, by go_num⟩
            case measure => simp [intOf]; omega
          · have h4 := Lib.hid (h2.out ht)
            have ht' : (t == (k : Int)) = false := by simp [ht]
            clear h1 h2
            generalize cnt x k j = f at *
            go_wp2
            go_round
            case rel => exact ⟨j + 1, by omega, by rw [h4.out], by go_num⟩
            case measure => simp [intOf]; omega
        · obtain rfl : n = j := by omega
          have ha := HA.out k
          rw [ha, HC.out k hlt]
          clear ha
          go_wp2
          go_round
          case rel => exact ⟨k + 1, by omega, by go_num⟩
          case measure => simp [intOf]; omega
    · obtain rfl : n = k := by omega
      go_wp2
      go_ret
      exact ⟨rfl, rfl⟩
/-- an answer has every number once -/
theorem pre_count {n : Nat} (hn : n ≤ 128) {x : List Int} (h : Pre n x) (hl : x.length = n) : ∀ k, k < n → x.count (k : Int) = 1 := fun k hk => by
  have hf := frl_full hn h
  have hm : (k : Int) ∈ x := Classical.byContradiction fun q => by
    have := (frl_mem hn x k).2 ⟨by omega, q⟩
    have := List.length_pos_of_mem this
    omega
  rw [h.1.count, if_pos hm]
set_option maxRecDepth 100000 in
set_option maxHeartbeats 4000000 in
theorem rcost_any {C : Int} {n : Nat} {wl vl : List Int} {cl : List (List Int)} (hc : chk 2 n C wl vl cl = 0) (x : List Int) (hx : Pre n x) (hl : x.length = n) (wa va ca xa : Option Addr) (wc vc cc xc : Nat) (w : World) (h : Prob w wl vl cl wa va ca) (hI : Ints w xa x) :
    Calls Tryd.prog 30 #[.agg #[.int .i64 2, .int .i64 n, .int .i64 C, .slice wa wl.length wc, .slice va vl.length vc, .slice ca cl.length cc], .slice xa x.length xc] w
      fun e w' => e = .returned (.tuple #[.int .i64 (csm cl x n), .int .i64 0]) ∧ Below w.heap.size w w' := by
  obtain ⟨z1, z2⟩ := chk_rw hc
  obtain ⟨z3, z4, z5⟩ := z2 (by decide)
  have z4' : cl.length = n := by omega
  have hE := (zr.ent_of hc).1
  rw [z4'] at hE
  have n24 : n ≤ 24 := by omega
  have bA : Below w.heap.size w (w.alloc (.cells #[.int .i64 2, .int .i64 n, .int .i64 C, .slice wa wl.length wc, .slice va vl.length vc, .slice ca cl.length cc] 25)) := bl_al (Below.refl _ _) _
  have HK := Lib.hid (ref_any 2 n C wl vl cl wa va ca wc vc cc _ (h.keep bA))
  have Q := Lib.hid (heap_alloc_new w (.cells #[.int .i64 2, .int .i64 n, .int .i64 C, .slice wa wl.length wc, .slice va vl.length vc, .slice ca cl.length cc] 25))
  have BA := Lib.hid bA
  have HPm : Hid (∀ W, Below w.heap.size w W → Calls Tryd.prog 60 #[.slice xa n xc, .int .i64 n] W fun e w' => e = .returned (.bool true) ∧ W = w') := Lib.hid fun W hb => by
    have := rperm_any x (by rw [hl]; exact pre_count (by omega) hx hl) (by omega) xa xc W (hI.keep hb)
    rw [hl] at this
    exact this
  have HS : Hid (∀ k, k < n → (∃ bp op gr cr gt go zn, xa = some ⟨bp, op, none⟩ ∧ ca = some ⟨gt, go, none⟩ ∧ (∃ gs, gr = some gs ∧ ∀ W, Below w.heap.size w W → W.cell? ⟨bp, op + k, none⟩ = some (.int .i64 (zn : Nat)) ∧ W.cell? ⟨gt, go + k, none⟩ = some (.slice gr n cr) ∧ W.cell? (gs.add zn) = some (.int .i64 (csm cl x (k + 1) - csm cl x k))) ∧ zn < n) ∧ 0 ≤ csm cl x k ∧ csm cl x k ≤ k * 2147483647 ∧ 0 ≤ csm cl x (k + 1) - csm cl x k ∧ csm cl x (k + 1) - csm cl x k ≤ 2147483647) := Lib.hid fun k hk => by
    obtain ⟨gt, go, aj, cj, er, lr, mr, ir, _⟩ := h.2.2.1 k (by omega)
    have z5k := z5 k (by omega)
    rw [z4'] at z5k
    rw [z5k] at mr
    obtain ⟨bp, op, e1, l1, m1⟩ := hI k (by omega)
    have a := pre_at hx k (by omega)
    have b := hE k (od.nth x k).toNat (by omega) (by omega)
    have c := csm_bd hx hE k (by omega)
    have d : csm cl x (k + 1) - csm cl x k = od.nth (cl[k]?.getD []) (od.nth x k).toNat := by show csm cl x k + _ - csm cl x k = _; omega
    obtain ⟨zn, hzn⟩ : ∃ zn : Nat, od.nth x k = (zn : Int) := ⟨(od.nth x k).toNat, by omega⟩
    obtain ⟨b2, o2, e2, l2, m2⟩ := ir zn (by rw [z5k]; omega)
    rw [d]
    refine ⟨⟨bp, op, aj, cj, gt, go, zn, e1, er, ⟨⟨b2, o2, none⟩, e2, fun W hb => ⟨?_, (hb.cell (p := ⟨gt, go + k, none⟩) lr).trans mr, ?_⟩⟩, by omega⟩, c.1, c.2, b.1, b.2⟩
    · refine (hb.cell (p := ⟨bp, op + k, none⟩) l1).trans ?_
      rw [m1, ← hzn]
      unfold od.nth
      rfl
    · rw [kn.add_at]
      refine (hb.cell (p := ⟨b2, o2 + zn, none⟩) l2).trans ?_
      rw [m2, hzn, Int.toNat_natCast]
      unfold od.nth
      rfl
  have C0 := Lib.hid (show csm cl x 0 = 0 from rfl)
  rw [hc] at HK
  rw [hl]
  clear h hI bA hc z1 z2 z3 z5 hE hx hl
  rw [z4'] at *
  clear z4'
  generalize csm cl x = f at *
  generalize wl.length = wn at *
  generalize vl.length = vn at *
  go_enter Tryd.func30, Tryd.ntmps30
  go_wp2_with fail
  refine HK.out.mono ?_; rintro e w1 ⟨rfl, hb1⟩
  obtain ⟨c0, c1, c2, c3, c4, c5⟩ := box6 ((hb1.block _ (lt_hp Q.out)).trans Q.out)
  have B1 := Lib.hid (bl_tr BA.out hb1)
  have HB6 := Lib.hid (fun X (hb : Below w1.heap.size w1 X) => box6 (((bl_tr hb1 hb).block _ (lt_hp Q.out)).trans Q.out))
  clear hb1
  go_wp2_with fail
  refine (HPm.out w1 B1.out).mono ?_; rintro e w2 ⟨rfl, rfl⟩
  go_wp2
  go_loopw [7, 8] (fun a i wr => ∃ k : Nat, k ≤ n ∧ a = .int .i64 (f k) ∧ i = .int .i64 k ∧ Hid (Below w1.heap.size w1 wr)) (fun _ i _ => n - (intOf i).toNat)
  case atStart => exact ⟨0, by omega, by rw [C0.out], rfl, Lib.hid (Below.refl _ _)⟩
  case round =>
    clear c0 c1 c2 c3 c4 c5
    obtain ⟨k, hk, rfl, rfl, BW⟩ := hrel
    have bel := BW.out
    obtain ⟨c0, c1, c2, c3, c4, c5⟩ := HB6.out _ bel
    by_cases hlt : k < n
    · obtain ⟨⟨bp, op, gr, cr, gt, go, zn, rfl, rfl, ⟨gs, rfl, hcc⟩, hz⟩, s1, s2, s3, s4⟩ := HS.out k hlt
      obtain ⟨m1, m3, m4⟩ := hcc _ (bl_tr B1.out bel)
      obtain ⟨u, hu⟩ : ∃ u, u = f (k + 1) - f k := ⟨_, rfl⟩
      rw [← hu] at m4 s3 s4
      have hf : f (k + 1) = f k + u := by omega
      have HF := Lib.hid hf
      have lk : (k : Int) ≤ 24 := by omega
      have r1 : IntKind.i64.wrap (f k + u) = f k + u := by rw [IntKind.wrap_i64]; omega
      have z0 : (0 : Int) ≤ (zn : Int) := by omega
      have z1 : (zn : Int) < (n : Int) := by omega
      have q1 : (k : Int) < (n : Int) := by omega
      have q0 : (0 : Int) ≤ (k : Int) := by omega
      clear hu hf hcc bel
      obtain ⟨gsb, gso, gsn⟩ := gs
      generalize f k = fk at *
      have BD := Lib.hid (fun q => bl_tr BW.out (od.bl_dn (Below.refl wr.heap.size wr) q))
      clear BW
      go_wp2
      go_quiet (fail)
      go_wp2
      go_roundw
      case rel => exact ⟨k + 1, by omega, by rw [HF.out], by go_num, Lib.hid (BD.out _)⟩
      case measure => simp [intOf]; omega
    · obtain rfl : n = k := by omega
      have BG := Lib.hid (bl_tr B1.out bel)
      clear bel
      go_wp2
      first
        | exact ⟨rfl, BG.out⟩
        | (go_ret2; exact ⟨rfl, BG.out⟩)
        | (refine bodyPost_ret (results_tmps rfl) rfl ?_; exact ⟨rfl, BG.out⟩)
end Go.Proofs.YtlhpiikpmmlpeaaDoor
