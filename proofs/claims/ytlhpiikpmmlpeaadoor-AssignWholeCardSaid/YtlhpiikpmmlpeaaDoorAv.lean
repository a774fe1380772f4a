/-
  assign: Bound.
-/
import Derived.Test.YtlhpiikpmmlpeaaDoorAu
import Derived.Test.YtlhpiikpmmlpeaaDoorAn
namespace Go.Proofs.YtlhpiikpmmlpeaaDoor
open Go.RowKit
set_option linter.unusedVariables false
set_option linter.unusedSimpArgs false
theorem frl_full {n : Nat} (hn : n ≤ 128) {p : List Int} (h : Pre n p) : (frl n p).length = n - p.length := by
  have a1 := od.nodup_len n (p ++ frl n p) (by
    rw [List.nodup_append]
    refine ⟨h.1, ?_, fun a ha c hc e => ?_⟩
    · rw [List.nodup_iff_pairwise_ne]
      exact (frl_pw n p).imp (fun q => by omega)
    · subst e
      exact ((frl_mem hn p a).1 hc).2 ha) (fun v hv => by
    rcases List.mem_append.1 hv with q | q
    · exact h.2 v q
    · exact ((frl_mem hn p v).1 q).1)
  have a2 := (od.perm_pig n (p ++ frl n p) (fun j hj => by
    by_cases c : (j : Int) ∈ p
    · exact List.mem_append_left _ c
    · exact List.mem_append_right _ ((frl_mem hn p j).2 ⟨by omega, c⟩))).1
  rw [List.length_append] at a1 a2
  omega
/-- what a beginning has cost -/
def csm (cl : List (List Int)) (p : List Int) : Nat → Int
  | 0 => 0
  | k + 1 => csm cl p k + od.nth (cl[k]?.getD []) (od.nth p k).toNat
theorem pre_at {n : Nat} {p : List Int} (h : Pre n p) (k : Nat) (hk : k < p.length) : 0 ≤ od.nth p k ∧ od.nth p k < n := by
  rw [od.nth_at _ k hk]
  exact h.2 _ (List.getElem_mem hk)
def EntB (n : Nat) (cl : List (List Int)) : Prop := ∀ r c : Nat, r < n → c < n → 0 ≤ od.nth (cl[r]?.getD []) c ∧ od.nth (cl[r]?.getD []) c ≤ 2147483647
theorem csm_bd {n : Nat} {cl : List (List Int)} {p : List Int} (h : Pre n p) (hE : EntB n cl) : ∀ k, k ≤ p.length → 0 ≤ csm cl p k ∧ csm cl p k ≤ k * 2147483647
  | 0, _ => ⟨Int.le_refl _, by show (0 : Int) ≤ _; omega⟩
  | k + 1, hk => by
    obtain ⟨i1, i2⟩ := csm_bd h hE k (by omega)
    have a := pre_at h k (by omega)
    have l := pre_len h
    have b := hE k (od.nth p k).toNat (by omega) (by omega)
    push_cast
    exact ⟨by show 0 ≤ csm cl p k + _; omega, by show csm cl p k + _ ≤ _; omega⟩
theorem rest_bd {n : Nat} {cl : List (List Int)} {p : List Int} (hn : n ≤ 24) (h : Pre n p) (hE : EntB n cl) : 0 ≤ restR n cl (frl n p) p.length ∧ restR n cl (frl n p) p.length ≤ 103079215056 := by
  have hl := frl_full (by omega) h
  have hm := fun v hv => ((frl_mem (by omega : n ≤ 128) p v).1 hv).1
  have pl := pre_len h
  obtain ⟨⟨s1, s2⟩, s3, s4, s5⟩ := rst_bd (fr := p.length) hm (fun q e => by rw [e] at hl; simp at hl; omega) hE (n - p.length) (by omega)
  obtain ⟨t1, t2⟩ := smv_bd (rst n cl (frl n p) p.length (n - p.length)).2 (frl n p) (rst n cl (frl n p) p.length (n - p.length)).1 (fun c hc => ⟨(s4 c.toNat (by have := hm c hc; omega)).1, s5 (by
    cases q : frl n p with
    | nil => rw [q] at hc; simp at hc
    | cons a r => rw [q, List.length_cons] at hl; omega) c hc⟩)
  unfold restR
  have e1 : ((n - p.length : Nat) : Int) ≤ 24 := by omega
  have e2 : (((frl n p).length : Nat) : Int) ≤ 24 := by omega
  exact ⟨by omega, by omega⟩
/-- what Bound leaves -/
def BdP (n : Nat) (cl : List (List Int)) (p : List Int) (w : World) (e : Ending) (w' : World) : Prop :=
  (¬ Pre n p ∧ e = .returned (.tuple #[.int .i64 0, .int .i64 1]) ∧ Below w.heap.size w w') ∨
  (Pre n p ∧ e = .returned (.tuple #[.int .i64 (csm cl p p.length + restR n cl (frl n p) p.length), .int .i64 0]) ∧ Below w.heap.size w w')
set_option maxRecDepth 100000 in
set_option maxHeartbeats 8000000 in
theorem bound_any {B b n : Nat} {cl : List (List Int)} (p : List Int) (hp : p.length ≤ 1000) (pa : Option Addr) (pc : Nat) (w : World) (hT : st.T64 w) (h : AK B b n cl w) (hI : Ints w pa p) (hE : EntB n cl) :
    Calls Tryd.prog 17 #[.pointer (some ⟨b, 0, none⟩), .slice pa p.length pc] w (BdP n cl p w) := by
  have HFr := Lib.hid (free_any p hp pa pc w h hI)
  by_cases hP : Pre n p
  rotate_left
  · have HG : Hid (∀ w', Below w.heap.size w w' → BdP n cl p w (.returned (.tuple #[.int .i64 0, .int .i64 1])) w') := fun w' hb => .inl ⟨hP, rfl, hb⟩
    have HP := Lib.hid hP
    clear h hI hP
    generalize BdP n cl p w = G at *
    generalize p.length = l at *
    go_enter Tryd.func17, Tryd.ntmps17
    go_wp2_with fail
    refine HFr.out.mono ?_; rintro e w1 q
    rcases q with ⟨q, _⟩ | ⟨_, rfl, hb1⟩
    · exact absurd q HP.out
    have B1 := Lib.hid (bl_al hb1 (.cells #[.int .u64 0, .int .u64 0] 55))
    clear hb1
    go_wp2
    first
      | exact HG.out _ B1.out
      | (go_ret; exact HG.out _ B1.out)
  · have n24 := h.2.2.1
    have pl := pre_len hP
    have HRB := Lib.hid (rest_bd n24 hP hE)
    have HCB := Lib.hid (csm_bd hP hE (p.length) (Nat.le_refl _))
    have HRest := Lib.hid (fun (x y : Nat) (hx : x < 18446744073709551616) (hy : y < 18446744073709551616) (hm : st.both x y = frl n p) (W : World) (hb : Below w.heap.size w W) => rest_any p.length x y hx hy W (hT.keep hb) (h.keep hb) pl (frl n p) hm (fun v hv => ((frl_mem (by omega : n ≤ 128) p v).1 hv).1) (frl_full (by omega) hP) hE)
    have HG : Hid (∀ w', Below w.heap.size w w' → BdP n cl p w (.returned (.tuple #[.int .i64 (csm cl p p.length + restR n cl (frl n p) p.length), .int .i64 0])) w') := fun w' hb => .inr ⟨hP, rfl, hb⟩
    have HS : Hid (∀ k, k < p.length → (∃ bp op gr cr gt kc zn, pa = some ⟨bp, op, none⟩ ∧ (∀ W, Below w.heap.size w W → W.cell? ⟨bp, op + k, none⟩ = some (.int .i64 (zn : Nat)) ∧ W.cell? ⟨b, 0, none⟩ = some (.slice (some ⟨gt, 0, none⟩) n kc) ∧ W.cell? ⟨gt, k, none⟩ = some (.slice (some ⟨gr, 0, none⟩) n cr) ∧ W.cell? ⟨gr, zn, none⟩ = some (.int .i64 (csm cl p (k + 1) - csm cl p k))) ∧ zn < n) ∧ 0 ≤ csm cl p k ∧ csm cl p k ≤ k * 2147483647 ∧ 0 ≤ csm cl p (k + 1) - csm cl p k ∧ csm cl p (k + 1) - csm cl p k ≤ 2147483647) := Lib.hid fun k hk => by
      obtain ⟨_, _, _, gt, kc, hq, _, hj⟩ := h
      obtain ⟨gr, cr, hc, hi, hil, hgt⟩ := hj.row (show k < n by omega)
      obtain ⟨bp, op, e1, l1, m1⟩ := hI k hk
      have a := pre_at hP k hk
      have b := hE k (od.nth p k).toNat (by omega) (by omega)
      have c := csm_bd hP hE k (by omega)
      have d : csm cl p (k + 1) - csm cl p k = od.nth (cl[k]?.getD []) (od.nth p k).toNat := by show csm cl p k + _ - csm cl p k = _; omega
      obtain ⟨zn, hzn⟩ : ∃ zn : Nat, od.nth p k = (zn : Int) := ⟨(od.nth p k).toNat, by omega⟩
      rw [d]
      refine ⟨⟨bp, op, gr, cr, gt, kc, zn, e1, fun W hb => ⟨?_, ?_, (hb.cell (p := ⟨gt, k, none⟩) hgt).trans hc, ?_⟩, by omega⟩, c.1, c.2, b.1, b.2⟩
      · refine (hb.cell (p := ⟨bp, op + k, none⟩) l1).trans ?_
        rw [m1, ← hzn]
        unfold od.nth
        rfl
      · rw [cell_of_row _ _ _ _ _ _ ((hb.block _ (lt_hp hq)).trans hq)]
        rfl
      · obtain ⟨bb, oo, ee, ll, mm⟩ := hi.ints zn (by rw [hil]; omega)
        injection ee with ee
        injection ee with e1 e2
        subst e1 e2
        refine (hb.cell (p := ⟨gr, zn, none⟩) ll).trans ?_
        rw [Nat.zero_add] at mm
        rw [mm, hzn, Int.toNat_natCast]
        unfold od.nth
        rfl
    have C0 := Lib.hid (show csm cl p 0 = 0 from rfl)
    have HP := Lib.hid hP
    clear h hI hP hE hT

    generalize BdP n cl p w = G at *
    generalize restR n cl (frl n p) p.length = rv at *
    generalize csm cl p = f at *
    obtain ⟨l, hl⟩ : ∃ l, l = p.length := ⟨_, rfl⟩
    rw [← hl] at HFr HCB HRest HG HS pl ⊢
    have l0 : (0 : Int) ≤ (l : Int) := by omega
    clear hl hp
    go_enter Tryd.func17, Tryd.ntmps17
    go_wp2_with fail
    refine HFr.out.mono ?_; rintro e w1 q
    rcases q with ⟨_, ⟨x, y, rfl, hx, hy, hm⟩, hb1⟩ | ⟨q, _⟩
    rotate_left
    · exact absurd HP.out q
    have HM := Lib.hid (both_frl hm)
    have QY := Lib.hid (heap_alloc_new w1 (.cells #[.int .u64 x, .int .u64 y] 55))
    have B1 := Lib.hid (bl_al hb1 (.cells #[.int .u64 x, .int .u64 y] 55))
    clear hb1 hm HFr
    obtain ⟨Y, hY⟩ : ∃ Y, Y = (w1.alloc (.cells #[.int .u64 x, .int .u64 y] 55)) := ⟨_, rfl⟩
    rw [← hY] at QY B1
    have HY := Lib.hid hY
    clear hY
    have RC := Lib.hid (HRest.out x y hx hy HM.out Y B1.out)
    obtain ⟨k0, k1, _, _⟩ := two_row QY.out
    clear HRest
    go_wp2
    rw [← HY.out]
    clear HY
    go_loop [8, 22] (fun a i => ∃ k : Nat, k ≤ l ∧ a = .int .i64 (f k) ∧ i = .int .i64 k) (fun _ i => l - (intOf i).toNat)
    case atStart => exact ⟨0, by omega, by rw [C0.out], rfl⟩
    case round =>
      obtain ⟨k, hk, rfl, rfl⟩ := hrel
      by_cases hlt : k < l
      · obtain ⟨⟨bp, op, gr, cr, gt, kc, zn, rfl, hc, hz⟩, s1, s2, s3, s4⟩ := HS.out k hlt
        obtain ⟨m1, m2, m3, m4⟩ := hc Y B1.out
        obtain ⟨u, hu⟩ : ∃ u, u = f (k + 1) - f k := ⟨_, rfl⟩
        rw [← hu] at m4 s3 s4
        have hf : f (k + 1) = f k + u := by omega
        have HF := Lib.hid hf
        have lk : (k : Int) ≤ 24 := by omega
        have r1 : IntKind.i64.wrap (f k + u) = f k + u := by rw [IntKind.wrap_i64]; omega
        have z0 : (0 : Int) ≤ (zn : Int) := by omega
        have z1 : (zn : Int) < (n : Int) := by omega
        have q1 : (k : Int) < (n : Int) := by omega
        clear hu hf hc
        generalize f k = fk at *
        go_wp2
        go_round
        case rel => exact ⟨k + 1, by omega, by rw [HF.out], by go_num⟩
        case measure => simp [intOf]; omega
      · obtain rfl : l = k := by omega
        clear HS
        have q1 := HCB.out
        have q2 := HRB.out
        have r1 : IntKind.i64.wrap (f l + rv) = f l + rv := by rw [IntKind.wrap_i64]; omega
        go_wp2_with fail
        refine RC.out.mono ?_; rintro e w3 ⟨rfl, hb3⟩
        have HE := Lib.hid (HG.out _ (bl_tr B1.out hb3))
        clear hb3
        go_wp2
        first
          | exact HE.out
          | (go_ret; exact HE.out)
end Go.Proofs.YtlhpiikpmmlpeaaDoor
