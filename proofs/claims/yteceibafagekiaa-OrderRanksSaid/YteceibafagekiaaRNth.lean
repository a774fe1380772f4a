/-
  What the reference's Nth answers.
-/
import Derived.Test.YteceibafagekiaaDig
import Derived.Test.YteceibafagekiaaInv
import Derived.Lib.SmallJoins
namespace Go.Proofs.Yteceibafagekiaa
open Go.RowKit
set_option linter.unusedVariables false
/-! ## which are used -/
theorem asc_nodup {l : List Int} (h : Asc l) : l.Nodup := by
  rw [List.Nodup, List.pairwise_iff_getElem]
  intro i j hi hj hij
  have := h i j hij hj
  rw [nth_at l i hi, nth_at l j hj] at this
  omega
theorem cl_cons (v x : Int) (l : List Int) : cl v (x :: l) = cl v l + if x < v then 1 else 0 := by
  have h1 := cl_app v [x] l
  have h2 := cl_snoc v x []
  rw [List.nil_append, cl_nil] at h2
  rw [List.singleton_append] at h1
  omega
theorem cl_next (v : Int) : ∀ l : List Int, cl (v + 1) l = cl v l + (l.count v : Nat)
  | [] => by simp [cl_nil]
  | x :: l => by
    rw [cl_cons, cl_cons, cl_next v l, List.count_cons]
    by_cases h1 : x = v
    · subst h1
      rw [if_pos (by omega), if_neg (by omega)]
      simp; omega
    · by_cases h2 : x < v
      · rw [if_pos (by omega), if_pos h2]; simp [h1]; omega
      · rw [if_neg (by omega), if_neg h2]; simp [h1]
theorem cl_in {l : List Int} (h : Asc l) {v : Int} (hv : v ∈ l) : cl (v + 1) l = cl v l + 1 := by
  rw [cl_next, (asc_nodup h).count, if_pos hv]; rfl
theorem cl_out {l : List Int} {v : Int} (hv : v ∉ l) : cl (v + 1) l = cl v l := by
  rw [cl_next, List.count_eq_zero_of_not_mem hv]; simp
theorem un_mem (n : Nat) (D : Nat → Nat) : ∀ k x, x ∈ un n D k → 0 ≤ x ∧ x < n
  | 0, x, h => by
    rw [un_zero] at h
    obtain ⟨i, hi, e⟩ := List.mem_iff_getElem.1 h
    rw [← nth_at _ i hi, upTo_nth n i (by rw [upTo_len] at hi; exact hi)] at e
    rw [upTo_len] at hi
    omega
  | k + 1, x, h => by rw [un_succ] at h; exact un_mem n D k x (List.mem_of_mem_eraseIdx h)
theorem cl_zero (n : Nat) (D : Nat → Nat) (k : Nat) : cl 0 (un n D k) = 0 := by
  unfold cl
  have : (un n D k).countP (fun x => decide (x < 0)) = 0 := List.countP_eq_zero.2 (fun x hx => by have := un_mem n D k x hx; simp; omega)
  rw [this]; rfl
theorem cl_full (n : Nat) (D : Nat → Nat) (k : Nat) : cl n (un n D k) = (un n D k).length := by
  unfold cl
  rw [List.countP_eq_length.2 (fun x hx => by have := un_mem n D k x hx; simp; omega)]
def UB (n : Nat) (D : Nat → Nat) (k v : Nat) : Bool := decide (v < n ∧ (v : Int) ∉ un n D k)
theorem ub_zero (n : Nat) (D : Nat → Nat) (v : Nat) : UB n D 0 v = false := by
  unfold UB
  rw [un_zero]
  simp only [decide_eq_false_iff_not]
  rintro ⟨h1, h2⟩
  exact h2 (isP_mem (upTo_isP n) v (by rw [upTo_len]; exact h1))
theorem ub_next (n : Nat) (D : Nat → Nat) (hD : ∀ k, k < n → D k < n - k) (k v u : Nat) (hk : k < n) (hv : v < n) (hT : tk n D k = v) : UB n D (k + 1) u = if u = v then true else UB n D k u := by
  have e1 := un_len n D hD k (by omega)
  have e2 := hD k hk
  have hp := erase_perm (l := un n D k) (d := D k) (by omega)
  rw [← un_succ] at hp
  have hT' : nth (un n D k) (D k) = (v : Int) := hT
  rw [hT'] at hp
  have nd : ((v : Int) :: un n D (k + 1)).Nodup := hp.nodup_iff.2 (asc_nodup (un_asc n D k))
  have nv : (v : Int) ∉ un n D (k + 1) := (List.nodup_cons.1 nd).1
  unfold UB
  by_cases h1 : u = v
  · subst h1; rw [if_pos rfl]; simp [hv, nv]
  · rw [if_neg h1]
    have : (u : Int) ∈ un n D k ↔ (u : Int) ∈ un n D (k + 1) := by
      rw [← hp.mem_iff, List.mem_cons]
      constructor
      · rintro (h | h)
        · exact absurd (by exact_mod_cast h) h1
        · exact h
      · exact Or.inr
    simp only [this]
theorem alloc2 (w : World) (A B : Obj) : ((w.alloc A).alloc B).heap[w.heap.size]? = some A := by
  have h1 := (bl_al (Below.refl _ (w.alloc A)) B).block w.heap.size (by show w.heap.size < (w.heap.push A).size; simp)
  rw [h1]
  show (w.heap.push A)[w.heap.size]? = _
  simp
structure RN (n : Nat) (D : Nat → Nat) (gA : Nat) (w : World) (k go cap : Nat) (W : World) : Prop where
  blk : ∃ C : Array Value, W.heap[gA]? = some (.cells C 44 (0, 0)) ∧ C.size = 20 ∧ ∀ v, v < 20 → C[v]? = some (.bool (UB n D k v))
  own : W.ownsRow (gA + 1) 3 1 (.slice (some ⟨go, 0, none⟩) k cap) k (((ord n D).take k).map (Value.int .i64))
  bel : Below w.heap.size w W
theorem RN.cell {n gA k go cap : Nat} {D : Nat → Nat} {w W : World} (h : RN n D gA w k go cap W) (v : Nat) (hv : v < 20) : W.cell? ⟨gA, v, none⟩ = some (.bool (UB n D k v)) := by
  obtain ⟨C, h1, h2, h3⟩ := h.blk
  rw [Joins.cell_of_block h1, h3 v hv]
theorem RN.froz {n gA k go cap : Nat} {D : Nat → Nat} {w W : World} (h : RN n D gA w k go cap W) (v : Nat) : W.frozen? ⟨gA, v, none⟩ = false := by
  obtain ⟨C, h1, h2, h3⟩ := h.blk
  exact Joins.unfrozen_of_block h1 v
theorem RN.osto {n gA k go cap : Nat} {D : Nat → Nat} {w W : World} (h : RN n D gA w k go cap W) (v : Nat) : (W.setCell ⟨gA, v, none⟩ (.bool true)).ownsRow (gA + 1) 3 1 (.slice (some ⟨go, 0, none⟩) k cap) k (((ord n D).take k).map (Value.int .i64)) :=
  ownsRow_setCell_below h.own (by show gA < gA + 1; omega) _
theorem RN.size {n gA k go cap : Nat} {D : Nat → Nat} {w W : World} (h : RN n D gA w k go cap W) : gA + 1 ≤ W.heap.size := by
  obtain ⟨C, h1, h2, h3⟩ := h.blk
  have := lt_hp h1; omega
theorem RN.gole {n gA k go cap : Nat} {D : Nat → Nat} {w W : World} (h : RN n D gA w k go cap W) : gA + 1 ≤ go := by
  rcases h.own.2 with ⟨h', _⟩ | ⟨g', cap', cur, hv, hg, _⟩
  · cases h'
  · injection hv with hv _ _
    injection hv with hv
    injection hv with hv
    omega
theorem RN.next {n gA k go cap : Nat} {D : Nat → Nat} {w W w3 : World} (h : RN n D gA w k go cap W) (hD : ∀ k, k < n → D k < n - k) (v : Nat) (hk : k < n) (hv : v < n) (hT : tk n D k = v) (hg : gA = w.heap.size) {go2 cap2 : Nat} (o : Obj)
    (hown : w3.ownsRow (gA + 1) 3 1 (.slice (some ⟨go2, 0, none⟩) (k + 1) cap2) (k + 1) (((ord n D).take k).map (Value.int .i64) ++ [.int .i64 v]))
    (hgr : ((W.setCell ⟨gA, v, none⟩ (.bool true)).alloc o).grownBy w3 (Value.slice (some ⟨go, 0, none⟩) k cap).ownBlock) : RN n D gA w (k + 1) go2 cap2 w3 := by
  have hs1 := (((Below.refl (gA + 1) W).mono (Nat.le_succ gA)).setCell (p := ⟨gA, v, none⟩) (Nat.le_refl _) (.bool true)).size
  have hs2 := h.size
  have hgo := h.gole
  have hb : Below (gA + 1) (W.setCell ⟨gA, v, none⟩ (.bool true)) w3 := ((Below.refl (gA + 1) _).alloc (by omega) o).grown hgr (by have := ((Below.refl (gA + 1) (W.setCell ⟨gA, v, none⟩ (.bool true))).alloc (by omega) o).size; omega) (fun j hj => by simp [Value.ownBlock] at hj; omega)
  obtain ⟨C, h1, h2, h3⟩ := h.blk
  refine ⟨⟨C.setIfInBounds v (.bool true), (hb.block gA (by omega)).trans (Joins.block_setCell h1 _), by simpa using h2, fun u hu => ?_⟩, ?_, ?_⟩
  · rw [ub_next n D hD k v u hk hv hT, Array.getElem?_setIfInBounds, h3 u hu]
    by_cases h4 : v = u
    · subst h4; simp; omega
    · rw [if_neg h4, if_neg (fun h => h4 h.symm)]
  · have e : (ord n D).take (k + 1) = (ord n D).take k ++ [(v : Int)] := by
      rw [List.take_succ_eq_append_getElem (by rw [ord_len]; exact hk), ← nth_at _ k (by rw [ord_len]; exact hk), ord_nth n D k hk, hT]
    rw [e, List.map_append]
    exact hown
  · exact (h.bel.setCell (p := ⟨gA, v, none⟩) (by show w.heap.size ≤ gA; omega) _).trans (hb.mono (by omega))
attribute [irreducible] UB
theorem rnth_arg (n r : Int) (h : n < 0 ∨ 20 < n) (w : World) :
    Calls Try.prog 22 #[.int .i64 n, .int .i64 r] w fun e w' => e = .returned (.tuple #[.slice none 0 0, .int .i64 1]) ∧ Below w.heap.size w w' := by
  by_cases h1 : n < 0
  · go_enter Try.func22, Try.ntmps22
    go_wp2
    go_ret2
    exact ⟨rfl, Below.refl _ _⟩
  · have h2 : 20 < n := by omega
    go_enter Try.func22, Try.ntmps22
    go_wp2
    go_ret2
    exact ⟨rfl, Below.refl _ _⟩
theorem rnth_neg (n r : Int) (h : 0 ≤ n) (h2 : n ≤ 20) (hr : r < 0) (w : World) :
    Calls Try.prog 22 #[.int .i64 n, .int .i64 r] w fun e w' => e = .returned (.tuple #[.slice none 0 0, .int .i64 11]) ∧ Below w.heap.size w w' := by
  have g1 : ¬ n < 0 := by omega
  have g2 : ¬ 20 < n := by omega
  go_enter Try.func22, Try.ntmps22
  go_wp2
  go_ret2
  exact ⟨rfl, Below.refl _ _⟩
theorem rnth_big (n r : Nat) (h2 : n ≤ 20) (hr : fN n ≤ r) (w : World) :
    Calls Try.prog 22 #[.int .i64 n, .int .i64 r] w fun e w' => e = .returned (.tuple #[.slice none 0 0, .int .i64 11]) ∧ Below w.heap.size w w' := by
  have g1 : ¬ (n : Int) < 0 := by omega
  have g2 : ¬ 20 < (n : Int) := by omega
  have g3 : ¬ (r : Int) < 0 := by omega
  have hF := Lib.hid (fact_any n h2 w)
  rw [fct_fN] at hF
  have g4 : ((fN n : Nat) : Int) ≤ (r : Int) := by omega
  generalize fN n = f at *
  go_enter Try.func22, Try.ntmps22
  go_wp2_with fail
  refine hF.out.mono ?_; rintro e w1 ⟨rfl, rfl⟩
  go_wp2
  go_ret2
  exact ⟨rfl, Below.refl _ _⟩
set_option maxRecDepth 100000 in
set_option maxHeartbeats 4000000 in
theorem rnth_ok (n r : Nat) (h2 : n ≤ 20) (hr63 : r ≤ 9223372036854775807) (hr : r < fN n) (w : World) :
    Calls Try.prog 22 #[.int .i64 n, .int .i64 r] w fun e w' => ∃ go cap, e = .returned (.tuple #[.slice (some ⟨go, 0, none⟩) n cap, .int .i64 0]) ∧ RN n (dg n r) w.heap.size w n go cap w' := by
  obtain ⟨i0, hi, hz0, hz1, hz2⟩ := info_parts info3
  have g1 : ¬ (n : Int) < 0 := by omega
  have g2 : ¬ 20 < (n : Int) := by omega
  have g3 : ¬ (r : Int) < 0 := by omega
  have hF := Lib.hid (fact_any n h2 w)
  rw [fct_fN] at hF
  have g4 : ¬ ((fN n : Nat) : Int) ≤ (r : Int) := by omega
  have HF := Lib.hid (fun m (hm : m ≤ 20) (W : World) => fact_any m hm W)
  have R0 := Lib.hid (show r % fN (n - 0) = r from by rw [Nat.sub_zero]; exact Nat.mod_eq_of_lt hr)
  have HQ := Lib.hid (fun k (hk : k < n) => (show r % fN (n - k) / fN (n - (k + 1)) = dg n r k from by
    unfold dg
    rw [show n - k = (n - (k + 1)) + 1 by omega, fN_succ, Nat.mod_mul_right_div_self]))
  have HM := Lib.hid (fun k (hk : k < n) => (show r % fN (n - k) % fN (n - (k + 1)) = r % fN (n - (k + 1)) from by
    rw [show n - k = (n - (k + 1)) + 1 by omega, fN_succ, Nat.mod_mul_right_mod]))
  have HFp := Lib.hid (fun m (hm : m ≤ 20) => (show 0 < fN m ∧ ((fN m : Nat) : Int) ≤ 2432902008176640000 from ⟨fN_pos m, by rw [← fct_fN]; exact (fct_bd m (by omega)).2⟩))
  have HRl := Lib.hid (fun k => (show r % fN (n - k) ≤ r from Nat.mod_le _ _))
  have HFe := Lib.hid fct_fN
  have HDl := Lib.hid (dg_lt n r)
  have HLen := Lib.hid (un_len n (dg n r) (dg_lt n r))
  have hfb := (HFp.out n h2).2
  generalize hf : fN n = f at hF g4 hr hfb
  clear hf
  have HR0 : Hid (RN n (dg n r) w.heap.size w 0 (w.heap.size + 1) 0 ((w.alloc (.cells #[.bool false, .bool false, .bool false, .bool false, .bool false, .bool false, .bool false, .bool false, .bool false, .bool false, .bool false, .bool false, .bool false, .bool false, .bool false, .bool false, .bool false, .bool false, .bool false, .bool false] 44)).alloc (.cells #[] 3))) := by
    refine ⟨⟨_, alloc2 _ _ _, rfl, fun v hv => ?_⟩, ?_, bl_al (bl_al (Below.refl _ _) _) _⟩
    · rw [ub_zero]
      have e : (#[Value.bool false, .bool false, .bool false, .bool false, .bool false, .bool false, .bool false, .bool false, .bool false, .bool false, .bool false, .bool false, .bool false, .bool false, .bool false, .bool false, .bool false, .bool false, .bool false, .bool false] : Array Value) = Array.replicate 20 (.bool false) := rfl
      rw [e, Array.getElem?_replicate, if_pos hv]
    · have := own0 (w.alloc (.cells #[.bool false, .bool false, .bool false, .bool false, .bool false, .bool false, .bool false, .bool false, .bool false, .bool false, .bool false, .bool false, .bool false, .bool false, .bool false, .bool false, .bool false, .bool false, .bool false, .bool false] 44))
      simpa using this
  go_enter Try.func22, Try.ntmps22
  go_wp2_with fail
  refine hF.out.mono ?_; rintro e w1 ⟨rfl, rfl⟩
  have g4d : decide (f ≤ r) = false := by simp; omega
  go_wp2

  clear g4d
  generalize hgA : w1.heap.size = gA at *
  generalize (w1.alloc (.cells #[.bool false, .bool false, .bool false, .bool false, .bool false, .bool false, .bool false, .bool false, .bool false, .bool false, .bool false, .bool false, .bool false, .bool false, .bool false, .bool false, .bool false, .bool false, .bool false, .bool false] 44)).alloc (.cells #[] 3) = W0 at *
  go_loopw [1, 7, 8] (fun x s i wr => ∃ k : Nat, k ≤ n ∧ x = .int .i64 ((r % fN (n - k) : Nat) : Int) ∧ i = .int .i64 k ∧ ∃ go cap, s = .slice (some ⟨go, 0, none⟩) k cap ∧ Hid (RN n (dg n r) gA w1 k go cap wr)) (fun _ _ i _ => n - (intOf i).toNat)
  case atStart => exact ⟨0, by omega, by rw [R0.out], rfl, _, _, rfl, HR0⟩
  case round =>
    clear HR0
    obtain ⟨k, hk, rfl, rfl, go, cap, rfl, HR⟩ := hrel
    by_cases hlt : k < n
    · have hF1 := Lib.hid (HF.out (n - (k + 1)) (by omega) wr)
      rw [HFe.out] at hF1
      have e3 : (n : Int) - 1 - (k : Int) = ((n - (k + 1) : Nat) : Int) := by omega
      obtain ⟨p1, p2⟩ := HFp.out (n - (k + 1)) (by omega)
      have hq := HQ.out k hlt
      have hm := Lib.hid (HM.out k hlt)
      have hle := HRl.out k
      have hd := HDl.out k hlt
      have hmm := Nat.mod_le (r % fN (n - k)) (fN (n - (k + 1)))
      have hqi : (((r % fN (n - k)) : Nat) : Int).tdiv ((fN (n - (k + 1)) : Nat) : Int) = ((dg n r k : Nat) : Int) := by rw [← hq]; rfl
      have hmi : (((r % fN (n - k)) : Nat) : Int).tmod ((fN (n - (k + 1)) : Nat) : Int) = ((r % fN (n - k) % fN (n - (k + 1)) : Nat) : Int) := rfl
      have hun := HLen.out k (by omega)
      clear hq
      generalize r % fN (n - k) % fN (n - (k + 1)) = rem at *
      generalize r % fN (n - k) = R at *
      generalize hFF : fN (n - (k + 1)) = F at *
      go_wp2_with fail
      refine hF1.out.mono ?_; rintro e w5 ⟨rfl, rfl⟩
      go_wp2
      go_loopw [7, 10, 11] (fun s x v wr => ∃ u : Nat, u ≤ n ∧ s = .slice (some ⟨go, 0, none⟩) k cap ∧ v = .int .i64 u ∧ x = .int .i64 ((dg n r k : Int) - cl u (un n (dg n r) k)) ∧ Hid (cl u (un n (dg n r) k) ≤ dg n r k) ∧ Hid (RN n (dg n r) gA w1 k go cap wr)) (fun _ _ v _ => n - (intOf v).toNat)
      case atStart => exact ⟨0, by omega, rfl, rfl, by rw [show ((0 : Nat) : Int) = 0 from rfl, cl_zero, Int.sub_zero], by show _ ≤ _; rw [show ((0 : Nat) : Int) = 0 from rfl, cl_zero]; omega, HR⟩
      case round =>
        clear HR
        obtain ⟨u, hu, rfl, rfl, rfl, HC, HR⟩ := hrel
        have hcn := cl_nonneg u (un n (dg n r) k)
        have hcd := HC.out
        have hd2 : (dg n r k : Int) ≤ 20 := by omega
        by_cases hult : u < n
        · have c1 := HR.out.cell u (by omega)
          have f1 := HR.out.froz u
          by_cases hin : (u : Int) ∈ un n (dg n r) k
          · have hub : UB n (dg n r) k u = false := by unfold UB; simp [hin]
            rw [hub] at c1
            have hs := Lib.hid (cl_in (un_asc n (dg n r) k) hin)
            by_cases hz : cl u (un n (dg n r) k) = (dg n r k : Int)
            · have hT : tk n (dg n r) k = (u : Int) := by
                have := asc_at (un_asc n (dg n r) k) hin
                rw [hz] at this
                unfold tk
                simpa using this
              have hO := Lib.hid (HR.out.osto u)
              have hsz := Lib.hid (HR.out.size)
              have HNx := Lib.hid (fun (w3 : World) (go2 cap2 : Nat) (o : Obj) h1 h2 => HR.out.next (w3 := w3) (go2 := go2) (cap2 := cap2) (dg_lt n r) u hlt hult hT hgA.symm o h1 h2)
              have hzz : (dg n r k : Int) - cl u (un n (dg n r) k) = 0 := by omega
              rw [hzz]
              clear hs hz hcn hcd HC hd2
              have hsz2 := (((Below.refl (gA + 1) wr).mono (Nat.le_succ gA)).setCell (p := ⟨gA, u, none⟩) (Nat.le_refl _) (.bool true)).size
              have hszo := hsz.out
              have hOa := Lib.hid (hO.out.alloc (.cells #[.int .i64 u] 3))
              have hcn0 := cell_one_new (wr.setCell ⟨gA, u, none⟩ (.bool true)) (.int .i64 u) 3
              have hse : (wr.setCell ⟨gA, u, none⟩ (.bool true)).heap.size = wr.heap.size := by simp [World.setCell]
              rw [hse] at hcn0
              have hcn1 := Lib.hid hcn0
              clear hcn0 hse
              have hbs := Lib.hid (show gA + 1 ≤ ((wr.setCell ⟨gA, u, none⟩ (.bool true)).alloc (.cells #[.int .i64 u] 3)).heap.size from by have := ((Below.refl (gA + 1) (wr.setCell ⟨gA, u, none⟩ (.bool true))).alloc (by omega) (.cells #[.int .i64 u] 3)).size; omega)
              have hml : k + 1 ≤ maxLen := by unfold maxLen; omega
              have hby8 : (k + 1) * 8 ≤ 140737488355328 := by omega
              go_wp2_with (at_builtin; refine wpList_append_own _ rfl _ _ 22 rfl (gA + 1) 3 i0 (.int .i64 0) 1 8 Try.underlying22 hi hz0 hz1 hz2 rfl (by decide) _ _ _ rfl hOa.out ⟨wr.heap.size, 0, none⟩ 1 1 [.int .i64 u] rfl rfl hcn1.out (by simp [Value.oneCell']) hml hby8 hbs.out ?_)
              intro v' w3 hown hgrow hne
              obtain ⟨go2, cap2, rfl⟩ := own_form hown (by simpa using hne)
              rw [← List.map_take] at hown
              have HN3 := Lib.hid (HNx.out w3 go2 cap2 _ hown hgrow)
              clear hown hgrow hne HNx hO hsz2 hszo
              go_wp2
              go_roundw
              case rel => exact ⟨k + 1, by omega, by first | rw [hFF, hm.out] | rw [hFF, ← hm.out], by go_num, go2, cap2, rfl, HN3⟩
              case measure => simp [intOf]; omega
            · have hz' : ((dg n r k : Int) - cl u (un n (dg n r) k) == 0) = false := by simp; omega
              have hlt2 : cl u (un n (dg n r) k) + 1 ≤ (dg n r k : Int) := by omega
              generalize cl u (un n (dg n r) k) = c at *
              go_wp2
              go_roundw
              case rel => exact ⟨u + 1, by omega, rfl, by go_num, by rw [show ((u + 1 : Nat) : Int) = (u : Int) + 1 by omega, hs.out]; congr 1; omega, by show _ ≤ _; rw [show ((u + 1 : Nat) : Int) = (u : Int) + 1 by omega, hs.out]; exact hlt2, HR⟩
              case measure => simp [intOf]; omega
          · have hub : UB n (dg n r) k u = true := by unfold UB; simp [hin, hult]
            rw [hub] at c1
            have hs := Lib.hid (cl_out hin)
            generalize hc : cl u (un n (dg n r) k) = c at *
            go_wp2
            go_roundw
            case rel => exact ⟨u + 1, by omega, rfl, by go_num, by rw [show ((u + 1 : Nat) : Int) = (u : Int) + 1 by omega, hs.out], by show _ ≤ _; rw [show ((u + 1 : Nat) : Int) = (u : Int) + 1 by omega, hs.out]; exact hcd, HR⟩
            case measure => simp [intOf]; omega
        · exfalso
          obtain rfl : u = n := by omega
          rw [cl_full, hun] at hcd
          omega
    · obtain rfl : n = k := by omega
      go_wp2
      go_ret2
      exact ⟨go, cap, rfl, by rw [hgA]; exact HR.out⟩
end Go.Proofs.Yteceibafagekiaa
