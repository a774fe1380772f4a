/-
  The reference's Best of a beginning: one call of it.
-/
import Derived.Test.YtlhpiikpmmlpeaaDoorAv
import Derived.Test.YtlhpiikpmmlpeaaDoorKb
import Derived.Deep.RegionHeld3
import Derived.Deep.DeepCutAuto
namespace Go.Proofs.YtlhpiikpmmlpeaaDoor
open Go.RowKit
set_option linter.unusedVariables false
/-- a problem's box -/
def ob (K N C : Int) (v3 v4 v5 : Value) : Obj := .cells #[.int .i64 K, .int .i64 N, .int .i64 C, v3, v4, v5] 25
/-- is this number left out? -/
def skipR (K : Int) (x : List Int) (k : Nat) : Bool := (decide (K ≠ 1) && decide ((k : Int) ∈ x)) || (decide (K = 3) && decide (x.length = 0) && decide (k ≠ 0))
/-- the least of what the first k numbers lead to -/
def blR (r : List Int → Int) (K : Int) (x : List Int) : Nat → Int
  | 0 => -1
  | k + 1 => if skipR K x k = true then blR r K x k else if 0 ≤ r (x ++ [(k : Int)]) ∧ (blR r K x k < 0 ∨ r (x ++ [(k : Int)]) < blR r K x k) then r (x ++ [(k : Int)]) else blR r K x k
theorem bl_zero (r : List Int → Int) (K : Int) (x : List Int) : blR r K x 0 = -1 := rfl
theorem bl_skip {r : List Int → Int} {K : Int} {x : List Int} {k : Nat} (h : skipR K x k = true) : blR r K x (k + 1) = blR r K x k := by
  show (if _ then _ else _) = _; rw [if_pos h]
theorem bl_new {r : List Int → Int} {K : Int} {x : List Int} {k : Nat} (h : skipR K x k = false) (h1 : 0 ≤ r (x ++ [(k : Int)]) ∧ (blR r K x k < 0 ∨ r (x ++ [(k : Int)]) < blR r K x k)) : blR r K x (k + 1) = r (x ++ [(k : Int)]) := by
  show (if _ then _ else _) = _; rw [if_neg (by simp [h]), if_pos h1]
theorem bl_old {r : List Int → Int} {K : Int} {x : List Int} {k : Nat} (h : skipR K x k = false) (h1 : ¬ (0 ≤ r (x ++ [(k : Int)]) ∧ (blR r K x k < 0 ∨ r (x ++ [(k : Int)]) < blR r K x k))) : blR r K x (k + 1) = blR r K x k := by
  show (if _ then _ else _) = _; rw [if_neg (by simp [h]), if_neg h1]
attribute [irreducible] blR
def mostR (K : Int) (n : Nat) : Nat := if K = 1 then 2 else n
/-- d numbers are still wanted -/
def bstR (f : List Int → Int × Int) (K : Int) (n : Nat) : Nat → List Int → Int
  | 0, x => if (f x).2 ≠ 0 then -1 else (f x).1
  | d + 1, x => blR (bstR f K n d) K x (mostR K n)
theorem bst_bad {f : List Int → Int × Int} {K : Int} {n : Nat} {x : List Int} (h : (f x).2 ≠ 0) : bstR f K n 0 x = -1 := by show (if _ then _ else _) = _; rw [if_pos h]
theorem bst_ok {f : List Int → Int × Int} {K : Int} {n : Nat} {x : List Int} (h : (f x).2 = 0) : bstR f K n 0 x = (f x).1 := by show (if _ then _ else _) = _; rw [if_neg (by simp [h])]
theorem bst_succ (f : List Int → Int × Int) (K : Int) (n d : Nat) (x : List Int) : bstR f K n (d + 1) x = blR (bstR f K n d) K x (mostR K n) := rfl
attribute [irreducible] bstR
theorem bl_le {r : List Int → Int} {K : Int} {x : List Int} {j : Nat} {c : Int} (hs : skipR K x j = false) (h0 : 0 ≤ r (x ++ [(j : Int)])) (hc : r (x ++ [(j : Int)]) ≤ c) : ∀ k, j < k → 0 ≤ blR r K x k ∧ blR r K x k ≤ c
  | 0, h => absurd h (by omega)
  | k + 1, h => by
    by_cases e : j = k
    · subst e
      by_cases q : 0 ≤ r (x ++ [(j : Int)]) ∧ (blR r K x j < 0 ∨ r (x ++ [(j : Int)]) < blR r K x j)
      · rw [bl_new hs q]; exact ⟨h0, hc⟩
      · rw [bl_old hs q]; exact ⟨by omega, by omega⟩
    · have i := bl_le hs h0 hc k (by omega)
      cases s : skipR K x k with
      | true => rw [bl_skip s]; exact i
      | false =>
        by_cases q : 0 ≤ r (x ++ [(k : Int)]) ∧ (blR r K x k < 0 ∨ r (x ++ [(k : Int)]) < blR r K x k)
        · rw [bl_new s q]; exact ⟨by omega, by omega⟩
        · rw [bl_old s q]; exact i
end Go.Proofs.YtlhpiikpmmlpeaaDoor
namespace Go.Proofs.YtlhpiikpmmlpeaaDoor.kn
open Go.RowKit
set_option linter.unusedVariables false
theorem step_app2 {ops : Array Oper} {o : Oper} {A : Act} {X : World} {K : Act → World → Prop} {Q : Exit → Act → World → Prop} {E : Prop} (hgd : o.guard = none) (s x : Operand) (ho : o.op = .call { callee := .builtin .append, args := #[s, x], argTypes := #[22, 22] }) (hty : o.type = 22)
    (B : Nat) (v : Value) (L : List Int) (m : Int) (g1 : Nat) (he : A.eval s = v) (hx : A.eval x = .slice (some ⟨g1, 0, none⟩) 1 1) (hl : L.length ≤ 900) (hown : Ol B v L X) (hB : B ≤ X.heap.size) (hc : X.cell? ⟨g1, 0, none⟩ = some (.int .i64 m))
    (h : ∀ v' X', Ol B v' (L ++ [m]) X' → Tw (vb v) X X' → (∀ i, i ∈ vb v' → i ∈ vb v ∨ X.heap.size ≤ i) → K (A.put o.dst v') X') : if Region.wanted o (yielded ops A.tmps) = true then Oper.wp Tryd.prog o A X K Q else E := by
  have hw : Region.wanted o (yielded ops A.tmps) = true := by simp [Region.wanted, hgd]
  rw [if_pos hw]
  obtain ⟨i0, hi, hz0, hz1, hz2⟩ := info_parts info3
  obtain ⟨v', w', hr, h2, h3, h4, h5⟩ := run_append_own_at (P := Tryd.prog) X B 22 22 3 i0 (.int .i64 0) 1 8 Tryd.underlying22 hi hz0 hz1 hz2 rfl (by decide) v L.length (L.map (Value.int .i64)) hown ⟨g1, 0, none⟩ 1 1 [.int .i64 m] (by simp) (fun j u hj => by
    cases j with
    | zero => simp at hj; subst hj; exact hc
    | succ j => simp at hj) (by simp [Value.oneCell']) (by unfold maxLen; omega) (by omega) hB
  unfold Oper.wp execOp
  simp only [ho, hty, resolve, invoke, builtin, Sem.run_bind, Sem.run_pure, Result.andThen_ok, List.map_toArray, List.map_cons, List.map_nil, he, hx, hr]
  refine h v' w' ?_ ⟨h3.os, h3.tape, h3.output, h3.size, fun b hb hn => h3.block b hb (fun e => hn ((vb_own v b).mpr e.symm))⟩ (fun i hi => ?_)
  · show w'.ownsRow B 3 1 v' (L ++ [m]).length ((L ++ [m]).map (Value.int .i64))
    rw [List.map_append, List.length_append]
    exact h2
  · have e := (vb_own v' i).mp hi
    rcases h5 with h5 | h5
    · rw [h5] at e; exact .inl ((vb_own v i).mpr e)
    · rw [h5] at e; injection e with e; right; omega
theorem app_run_src {a : Option Addr} {c : Nat} {L : List Int} {w : World} (h : Ls (.slice a L.length c) L w) : SrcA w a c L ∨ L = [] := by
  rcases h with ⟨_, _, _, h0⟩ | ⟨g, o, c', h1, _, h3, h4⟩
  · exact .inr h0
  · injection h1 with q1 q2 q3
    subst q1
    exact .inl (.inr ⟨_, rfl, cells_src h4⟩)
theorem own_al {B : Nat} {v : Value} {L : List Int} {w : World} (h : Ol B v L w) (o : Obj) : Ol B v L ((w.alloc o).drew) := h.keep ((Tw.refl [] w).al o).dr (by simp)
theorem srcA_up {X Y : World} {a : Option Addr} {c : Nat} {l : List Int} (h : SrcA X a c l) (hb : Below X.heap.size X Y) : SrcA Y a c l := by
  rcases h with h | ⟨ad, e, hc⟩
  · exact .inl h
  · exact .inr ⟨ad, e, fun j u hj => (hb.cell (p := ad.add j) (block_lt_of_cell (hc j u hj))).trans (hc j u hj)⟩
theorem own0b (w : World) (o : Obj) : ((w.alloc o).alloc (.cells #[] 3)).ownsRow (w.heap.size + 1) 3 1 (.slice (some ⟨w.heap.size + 1, 0, none⟩) 0 0) 0 [] := by
  have h := own0 (w.alloc o)
  rw [World.size_alloc] at h
  exact h
theorem cx2 {w w5 : World} {x : Int} (h : ((w.alloc (.cells #[] 3)).alloc (.cells #[.int .i64 x] 3)).grownBy w5 (some w.heap.size)) : w5.cell? ⟨w.heap.size + 1, 0, none⟩ = some (.int .i64 x) := by
  have e := h.block (w.heap.size + 1) (by simp) (by simp)
  have a := heap_alloc_new (w.alloc (.cells #[] 3)) (.cells #[.int .i64 x] 3)
  rw [World.size_alloc] at a
  exact (cell_of_row _ _ 0 _ 3 _ (e.trans a)).trans rfl
theorem cx3 {w w5 : World} {x : Int} (h : ((w.alloc (.cells #[.int .i64 x] 3)).alloc (.cells #[] 3)).grownBy w5 (some (w.heap.size + 1))) : w5.cell? ⟨w.heap.size, 0, none⟩ = some (.int .i64 x) := by
  have e := h.block w.heap.size (by simp; omega) (by simp)
  have a := (heap_alloc_old (w.alloc (.cells #[.int .i64 x] 3)) (.cells #[] 3) (by simp)).trans (heap_alloc_new w (.cells #[.int .i64 x] 3))
  exact (cell_of_row _ _ 0 _ 3 _ (e.trans a)).trans rfl
theorem own_al0 {B : Nat} {v : Value} {L : List Int} {w : World} (h : Ol B v L w) (o : Obj) : Ol B v L (w.alloc o) := h.keep ((Tw.refl [] w).al o) (by simp)
theorem cell_al0 (w : World) (x : Int) : (w.alloc (.cells #[.int .i64 x] 3)).cell? ⟨w.heap.size, 0, none⟩ = some (.int .i64 x) := (cell_of_row _ _ 0 _ 3 _ (heap_alloc_new w (.cells #[.int .i64 x] 3))).trans rfl
theorem own_dr {B : Nat} {v : Value} {L : List Int} {w : World} (h : Ol B v L w) : Ol B v L w.drew := h.keep (Tw.refl [] w).dr (by simp)
theorem cell_al (w : World) (x : Int) : ((w.alloc (.cells #[.int .i64 x] 3)).drew).cell? ⟨w.heap.size, 0, none⟩ = some (.int .i64 x) := (cell_of_row _ _ 0 _ 3 _ (heap_alloc_new w (.cells #[.int .i64 x] 3))).trans rfl
theorem size_al {a w : World} (h : Below a.heap.size a w) (o : Obj) : a.heap.size ≤ ((w.alloc o).drew).heap.size := (bl_al h o).size
theorem bl_undr2 {X w : World} (h : Below X.drew.heap.size X.drew w) : Below X.heap.size X w := ⟨h.os, h.tape, h.output, h.size, h.block⟩
end Go.Proofs.YtlhpiikpmmlpeaaDoor.kn
namespace Go.Proofs.YtlhpiikpmmlpeaaDoor
open Go.RowKit
set_option linter.unusedVariables false
/-- is this number among the first of a list? -/
def uR (x : List Int) (k : Int) : Nat → Bool
  | 0 => false
  | a + 1 => uR x k a || decide (kn.nt x a = k)
theorem u_zero (x : List Int) (k : Int) : uR x k 0 = false := rfl
theorem u_yes {x : List Int} {k : Int} {a : Nat} (h : uR x k a = true) : uR x k (a + 1) = true := by show (_ || _) = _; rw [h]; rfl
theorem u_next {x : List Int} {k : Int} {a : Nat} (h : uR x k a = false) : uR x k (a + 1) = decide (kn.nt x a = k) := by show (_ || _) = _; rw [h]; rfl
theorem u_mem (x : List Int) (k : Int) : ∀ a, a ≤ x.length → uR x k a = decide (k ∈ x.take a)
  | 0, _ => by rw [u_zero]; simp
  | a + 1, h => by
    show (_ || _) = _
    rw [u_mem x k a (by omega), List.take_succ_eq_append_getElem (by omega), ← kn.nt_get x a (by omega)]
    by_cases e : kn.nt x a = k
    · simp [e]
    · have e' : ¬ k = kn.nt x a := fun q => e q.symm
      simp [e, e']
attribute [irreducible] uR
set_option maxRecDepth 100000 in
set_option maxHeartbeats 16000000 in
theorem best_step (r : List Int → Int) (K N C : Int) (v3 v4 v5 : Value) (n : Nat) (hN : N = (n : Int)) (x : List Int) (pa : Option Addr) (pc : Nat) (hx : x.length < n) (h64 : n ≤ 64) (w : World) (hp : kn.Ls (.slice pa x.length pc) x w) (hs : kn.SrcA w pa pc x)
    (IH : ∀ (u : Value) (Y : World) (k : Nat), skipR K x k = false → k < mostR K n → kn.Ls u (x ++ [(k : Int)]) Y → Below (w.alloc (ob K N C v3 v4 v5)).heap.size (w.alloc (ob K N C v3 v4 v5)) Y → Calls Tryd.prog 59 #[.agg #[.int .i64 K, .int .i64 N, .int .i64 C, v3, v4, v5], u] Y fun e w' => e = .returned (.int .i64 (r (x ++ [(k : Int)]))) ∧ Below Y.heap.size Y w') :
    Calls Tryd.prog 59 #[.agg #[.int .i64 K, .int .i64 N, .int .i64 C, v3, v4, v5], .slice pa x.length pc] w fun e w' => e = .returned (.int .i64 (blR r K x (mostR K n))) ∧ Below w.heap.size w w' := by
  have bA : Below w.heap.size w (w.alloc (ob K N C v3 v4 v5)) := bl_al (Below.refl _ _) _
  have BA := Lib.hid bA
  have q0 := Lib.hid (heap_alloc_new w (ob K N C v3 v4 v5))
  have HB6 := Lib.hid (fun (W : World) (h : Below (w.alloc (ob K N C v3 v4 v5)).heap.size (w.alloc (ob K N C v3 v4 v5)) W) => box6 ((h.block _ (lt_hp q0.out)).trans q0.out))
  have HX : Hid (∀ (W : World) (h : Below (w.alloc (ob K N C v3 v4 v5)).heap.size (w.alloc (ob K N C v3 v4 v5)) W) (j : Nat), j < x.length → ∃ b o, pa = some ⟨b, o, none⟩ ∧ W.cell? ⟨b, o + j, none⟩ = some (.int .i64 (kn.nt x j))) := fun W h j hj => by
    rcases (hp.up bA).up h with ⟨_, _, _, e⟩ | ⟨g, o, c, e, _, _, q⟩
    · rw [e] at hj; exact absurd hj (by simp)
    · injection e with e _ _
      exact ⟨g, o, e, q j hj⟩
  have SA0 := Lib.hid (fun (W : World) (h : Below (w.alloc (ob K N C v3 v4 v5)).heap.size (w.alloc (ob K N C v3 v4 v5)) W) => kn.srcA_up (kn.srcA_up hs bA) h)
  have L0 := Lib.hid (bl_zero r K x)
  have LS := Lib.hid (fun k h => bl_skip (r := r) (K := K) (x := x) (k := k) h)
  have LN := Lib.hid (fun k h h1 => bl_new (r := r) (K := K) (x := x) (k := k) h h1)
  have LO := Lib.hid (fun k h h1 => bl_old (r := r) (K := K) (x := x) (k := k) h h1)
  have U0 := Lib.hid (fun k => u_zero x k)
  have UY := Lib.hid (fun k a h => u_yes (x := x) (k := k) (a := a) h)
  have UN := Lib.hid (fun k a h => u_next (x := x) (k := k) (a := a) h)
  have UM : Hid (∀ k : Int, uR x k x.length = decide (k ∈ x)) := fun k => by rw [u_mem x k x.length (Nat.le_refl _), List.take_length]
  obtain ⟨M, hM⟩ : ∃ M, M = mostR K n := ⟨_, rfl⟩
  have hM64 : M ≤ 64 := by rw [hM]; unfold mostR; split <;> omega
  rw [← hM] at IH ⊢
  have RI := Lib.hid IH
  obtain ⟨kb, hkb⟩ : ∃ kb, (K == 1) = kb := ⟨_, rfl⟩
  obtain ⟨k3, hk3⟩ : ∃ k3, (K == 3) = k3 := ⟨_, rfl⟩
  have hk1 : (K != 1) = !kb := by rw [← hkb]; rfl
  have HM : Hid ((M : Int) = if kb = true then 2 else N) := by
    show (M : Int) = _
    rw [hM, ← hkb]; unfold mostR
    by_cases e : K = 1
    · simp [e]
    · simp [e, hN]
  have HSk : Hid (∀ k : Nat, skipR K x k = ((!kb && decide ((k : Int) ∈ x)) || (k3 && ((x.length : Int) == 0) && ((k : Int) != 0)))) := fun k => by
    unfold skipR
    rw [← hkb, ← hk3]
    have e1 : decide (K ≠ 1) = !(K == 1) := by by_cases e : K = 1 <;> simp [e]
    have e2 : decide (K = 3) = (K == 3) := by by_cases e : K = 3 <;> simp [e]
    have e3 : decide (x.length = 0) = ((x.length : Int) == 0) := by by_cases e : x.length = 0 <;> simp [e]
    have e4 : decide (k ≠ 0) = ((k : Int) != 0) := by by_cases e : k = 0 <;> simp [e]
    rw [e1, e2, e3, e4]
  have n1 : ((x.length : Int) == N) = false := by rw [hN]; simp; omega
  have hl64 : x.length ≤ 64 := by omega
  have hrefl := Lib.hid (Below.refl (w.alloc (ob K N C v3 v4 v5)).heap.size (w.alloc (ob K N C v3 v4 v5)))
  unfold ob at *
  clear IH hp hs bA q0 hM hN hx
  obtain ⟨ln, hln⟩ : ∃ ln, ln = x.length := ⟨_, rfl⟩
  rw [← hln] at HX UM HSk n1 hl64 ⊢
  have HLn := Lib.hid hln
  clear hln
  go_enter Tryd.func59, Tryd.ntmps59
  go_upto_region 1 with fail
  generalize w.alloc (.cells #[.int .i64 K, .int .i64 N, .int .i64 C, v3, v4, v5] 25) = X at *
  obtain ⟨e0, e1, e2, e3, e4, e5⟩ := HB6.out X hrefl.out
  cases kb
  · go_wp2
    go_loopw [7, 9] (fun v7 i wr => ∃ k : Nat, k ≤ M ∧ i = .int .i64 k ∧ v7 = .int .i64 (blR r K x k) ∧ Hid (Below X.heap.size X wr)) (fun _ i _ => M - (intOf i).toNat)
    case atStart => exact ⟨0, by omega, rfl, by rw [L0.out], hrefl⟩
    case round =>
      clear e0 e1 e2 e3 e4 e5 hrefl
      obtain ⟨k, hk, rfl, rfl, HD⟩ := hrel
      obtain ⟨e0, e1, e2, e3, e4, e5⟩ := HB6.out wr HD.out
      have hMM : (M : Int) = N := by have := HM.out; simpa using this
      by_cases hlt : k < M
      · have q1 : (k : Int) < (M : Int) := by omega
        rw [hMM] at q1
        clear hMM
        go_wp2
        go_loopw [10, 11] (fun v10 i wq => ∃ a : Nat, a ≤ ln ∧ i = .int .i64 a ∧ v10 = .bool (uR x (k : Int) a) ∧ wq = wr ∧ (K = 1 → a = 0)) (fun _ i _ => ln - (intOf i).toNat)
        case atStart => exact ⟨0, by omega, rfl, by rw [U0.out], rfl, fun _ => rfl⟩
        case round =>
          obtain ⟨a, ha, rfl, rfl, rfl, hK⟩ := hrel
          by_cases hal : a < ln
          · have r1 : (a : Int) < (ln : Int) := by omega
            have r0 : (0 : Int) ≤ (a : Int) := by omega
            obtain ⟨b, o, rfl, x1⟩ := HX.out wr HD.out a hal
            have hK' : K = 1 → a + 1 = 0 := fun h => by rw [h] at hkb; cases hkb
            cases hu : uR x (k : Int) a with
            | true =>
              have E := Lib.hid (UY.out (k : Int) a hu)
              clear hu
              generalize kn.nt x a = y at *
              go_wp2
              go_roundw
              case rel => exact ⟨a + 1, by omega, by go_num, by rw [E.out], by simp, hK'⟩
              case measure => simp [intOf]; omega
            | false =>
              have E := Lib.hid (UN.out (k : Int) a hu)
              clear hu
              by_cases e : kn.nt x a = (k : Int)
              · have eb : (kn.nt x a == (k : Int)) = true := by simpa using e
                rw [decide_eq_true e] at E
                clear e
                generalize kn.nt x a = y at *
                go_wp2
                go_roundw
                case rel => exact ⟨a + 1, by omega, by go_num, by rw [E.out], by simp, hK'⟩
                case measure => simp [intOf]; omega
              · have eb : (kn.nt x a == (k : Int)) = false := by simpa using e
                rw [decide_eq_false e] at E
                clear e
                generalize kn.nt x a = y at *
                go_wp2
                go_roundw
                case rel => exact ⟨a + 1, by omega, by go_num, by rw [E.out], by simp, hK'⟩
                case measure => simp [intOf]; omega
          · obtain rfl : ln = a := by omega
            have HUB : Hid (uR x (k : Int) ln = decide ((k : Int) ∈ x)) := UM.out (k : Int)
            rw [Bool.not_false] at hk1
            clear e0 e1 e2 e3 e4 e5
            obtain ⟨e0, e1, e2, e3, e4, e5⟩ := HB6.out wr HD.out
            generalize uR x (k : Int) ln = ub at *
            obtain ⟨l0, hl0⟩ : ∃ l0, ((ln : Int) == 0) = l0 := ⟨_, rfl⟩
            obtain ⟨zz, hzz⟩ : ∃ zz, ((k : Int) != 0) = zz := ⟨_, rfl⟩
            have HSq : Hid (skipR K x k = (ub || (k3 && l0 && zz))) := by
              show _ = _
              rw [HSk.out k, hl0, hzz, HUB.out]
              try simp
            have LSk := Lib.hid (LS.out k)
            have LNk := Lib.hid (LN.out k)
            have LOk := Lib.hid (LO.out k)
            have RIk := Lib.hid (fun u Y => RI.out u Y k)
            go_upto_region 18 with fail
            go_cut [71] (fun v71 wx => v71 = .bool (skipR K x k) ∧ wx = wr)
            case first =>
              clear HUB
              cases ub <;> cases k3 <;> cases l0 <;> cases zz
              all_goals
                go_wp2_with fail
                go_meet
                exact ⟨by rw [HSq.out]; rfl, rfl⟩
            case rest =>
              obtain ⟨rfl, hwc⟩ := hcut
              have hwc' := hwc.symm
              subst hwc'
              cases hsk : skipR K x k with
              | true =>
                have E := Lib.hid (LSk.out hsk)
                clear hsk
                generalize blR r K x k = bb at *
                go_wp2
                go_roundw
                case rel => exact ⟨k + 1, by omega, by go_num, by rw [E.out], HD⟩
                case measure => simp [intOf]; omega
              | false =>
                have LN2 : Hid ((0 ≤ r (x ++ [(k : Int)]) ∧ (blR r K x k < 0 ∨ r (x ++ [(k : Int)]) < blR r K x k)) → blR r K x (k + 1) = r (x ++ [(k : Int)])) := LNk.out hsk
                have LO2 : Hid (¬ (0 ≤ r (x ++ [(k : Int)]) ∧ (blR r K x k < 0 ∨ r (x ++ [(k : Int)]) < blR r K x k)) → blR r K x (k + 1) = blR r K x k) := LOk.out hsk
                have HSKK := Lib.hid (And.intro hsk hlt)
                clear hsk LNk LOk LSk HSq HUB
                have FX := Lib.hid (fun (Y : World) (h : Below wr.heap.size wr Y) => HB6.out Y (bl_tr HD.out h))
                have SA := Lib.hid (fun (Y : World) (h : Below wr.heap.size wr Y) => SA0.out Y (bl_tr HD.out h))
                have s0 := FX.out wr (Below.refl _ _)
                have RI2 := Lib.hid (fun u Y (h1 : kn.Ls u (x ++ [(k : Int)]) Y) (h2 : Below wr.heap.size wr Y) => RIk.out u Y HSKK.out.1 HSKK.out.2 h1 (bl_tr HD.out h2))
                generalize r (x ++ [(k : Int)]) = c7 at *
                generalize blR r K x k = bb at *
                obtain ⟨kk, hkk⟩ : ∃ kk : Int, kk = (k : Int) := ⟨_, rfl⟩
                rw [← hkk] at RI2 ⊢
                have HKK := Lib.hid hkk
                clear hkk
                have hlx := HLn.out
                subst hlx
                go_upto_region 19 with fail
                go_region_held3 (fun Y => (Y.cell? ⟨w.heap.size, 0, none⟩ = some (.int .i64 K) ∧ Y.cell? ⟨w.heap.size, 1, none⟩ = some (.int .i64 N) ∧ Y.cell? ⟨w.heap.size, 2, none⟩ = some (.int .i64 C) ∧ Y.cell? ⟨w.heap.size, 3, none⟩ = some v3 ∧ Y.cell? ⟨w.heap.size, 4, none⟩ = some v4 ∧ Y.cell? ⟨w.heap.size, 5, none⟩ = some v5)) (first | exact s0 | exact FX.out _ (bl_al (Below.refl _ wr) _) | exact FX.out _ (bl_al (bl_al (Below.refl _ wr) _) _) | exact FX.out _ (bl_al (Below.refl _ wr) _).drew | exact FX.out _ (bl_al (bl_al (Below.refl _ wr) _) _).drew | exact FX.out _ (od.bl_drew wr) | exact d3 | exact FX.out _ D5.out.drew | exact FX.out _ (bl_al D5.out _) | exact FX.out _ (bl_al D5.out _).drew | exact FX.out _ D6.out.drew | exact FX.out _ D7.out.drew | exact d4 | exact d5)
                    (first
                    | (refine kn.step_app (by rfl) _ _ (by rfl) (by rfl) (wr.heap.size) (wr.heap.size) x pa pc (by rfl) (by rfl) (by omega) (kn.own0 wr).drew (by first | (simp; done) | (simp; omega)) (SA.out _ (bl_al (Below.refl _ wr) (.cells #[] 3)).drew) ?_; intro g cap w5 ho5 hg5 hlt5; have hg6 : Below wr.heap.size wr w5 := (bl_al (Below.refl _ wr) (.cells #[] 3)).grown (kn.undrew_g hg5) (by first | (simp; done) | (simp; omega)) (fun j hj => by simp at hj; omega); have NL := Lib.hid (show kn.Ol (wr.heap.size) (.slice (some ⟨g, 0, none⟩) x.length cap) x w5 from ho5); have D5 := Lib.hid hg6; have d3 := FX.out w5 hg6; clear ho5 hg5 hlt5 hg6)
                    | (refine kn.step_app (by rfl) _ _ (by rfl) (by rfl) (wr.heap.size) (wr.heap.size) x pa pc (by rfl) (by rfl) (by omega) ((kn.own0 wr).alloc (.cells #[.int .i64 kk] 3)).drew (by first | (simp; done) | (simp; omega)) (SA.out _ (bl_al (bl_al (Below.refl _ wr) (.cells #[] 3)) (.cells #[.int .i64 kk] 3)).drew) ?_; intro g cap w5 ho5 hg5 hlt5; have hg6 : Below wr.heap.size wr w5 := (bl_al (bl_al (Below.refl _ wr) (.cells #[] 3)) (.cells #[.int .i64 kk] 3)).grown (kn.undrew_g hg5) (by first | (simp; done) | (simp; omega)) (fun j hj => by simp at hj; omega); have NL := Lib.hid (show kn.Ol (wr.heap.size) (.slice (some ⟨g, 0, none⟩) x.length cap) x w5 from ho5); have D5 := Lib.hid hg6; have d3 := FX.out w5 hg6; have CX := Lib.hid (kn.cx2 (kn.undrew_g hg5)); clear ho5 hg5 hlt5 hg6)
                    | (refine kn.step_app (by rfl) _ _ (by rfl) (by rfl) (wr.heap.size + 1) (wr.heap.size + 1) x pa pc (by rfl) (by rfl) (by omega) (kn.own0b wr _).drew (by first | (simp; done) | (simp; omega)) (SA.out _ (bl_al (bl_al (Below.refl _ wr) (.cells #[.int .i64 kk] 3)) (.cells #[] 3)).drew) ?_; intro g cap w5 ho5 hg5 hlt5; have hg6 : Below wr.heap.size wr w5 := (bl_al (bl_al (Below.refl _ wr) (.cells #[.int .i64 kk] 3)) (.cells #[] 3)).grown (kn.undrew_g hg5) (by first | (simp; done) | (simp; omega)) (fun j hj => by simp at hj; omega); have NL := Lib.hid (show kn.Ol (wr.heap.size + 1) (.slice (some ⟨g, 0, none⟩) x.length cap) x w5 from ho5); have D5 := Lib.hid hg6; have d3 := FX.out w5 hg6; have CX := Lib.hid (kn.cx3 (kn.undrew_g hg5)); have SZ := Lib.hid (show wr.heap.size + 1 ≤ w5.heap.size from by have := hg5.size; simp at this; omega); clear ho5 hg5 hlt5 hg6)
                    | (refine kn.step_app2 (by rfl) _ _ (by rfl) (by rfl) (wr.heap.size) _ x kk (w5.heap.size) (by rfl) (by rfl) (by omega) (kn.own_al0 NL.out (.cells #[.int .i64 kk] 3)) ((bl_al D5.out (.cells #[.int .i64 kk] 3)).size) (kn.cell_al0 w5 kk) ?_; intro v6 w6 ho6 tw6 hv6; have hg6 : Below wr.heap.size wr w6 := kn.Tw.below (bl_al D5.out (.cells #[.int .i64 kk] 3)) tw6 (fun i hi => by have := (NL.out.blk i hi).1; omega) (bl_al D5.out (.cells #[.int .i64 kk] 3)).size; have NL2 := Lib.hid (show kn.Ol (wr.heap.size) v6 (x ++ [kk]) w6 from ho6); have D6 := Lib.hid hg6; have d4 := FX.out w6 hg6; clear ho6 tw6 hv6 hg6)
                    | (refine kn.step_app2 (by rfl) _ _ (by rfl) (by rfl) (wr.heap.size) _ x kk (w5.heap.size) (by rfl) (by rfl) (by omega) (kn.own_al NL.out (.cells #[.int .i64 kk] 3)) ((bl_al D5.out (.cells #[.int .i64 kk] 3)).size) (kn.cell_al w5 kk) ?_; intro v6 w6 ho6 tw6 hv6; have hg6 : Below wr.heap.size wr w6 := kn.Tw.below ((bl_al D5.out (.cells #[.int .i64 kk] 3)).drew) tw6 (fun i hi => by have := (NL.out.blk i hi).1; omega) ((bl_al D5.out (.cells #[.int .i64 kk] 3)).drew).size; have NL2 := Lib.hid (show kn.Ol (wr.heap.size) v6 (x ++ [kk]) w6 from ho6); have D6 := Lib.hid hg6; have d4 := FX.out w6 hg6; clear ho6 tw6 hv6 hg6)
                    | (refine kn.step_app2 (by rfl) _ _ (by rfl) (by rfl) (wr.heap.size) _ x kk (wr.heap.size + 1) (by rfl) (by rfl) (by omega) (NL.out) ((D5.out).size) CX.out ?_; intro v6 w6 ho6 tw6 hv6; have hg6 : Below wr.heap.size wr w6 := kn.Tw.below (D5.out) tw6 (fun i hi => by have := (NL.out.blk i hi).1; omega) (D5.out).size; have NL2 := Lib.hid (show kn.Ol (wr.heap.size) v6 (x ++ [kk]) w6 from ho6); have D6 := Lib.hid hg6; have d4 := FX.out w6 hg6; clear ho6 tw6 hv6 hg6)
                    | (refine kn.step_app2 (by rfl) _ _ (by rfl) (by rfl) (wr.heap.size + 1) _ x kk (wr.heap.size) (by rfl) (by rfl) (by omega) (NL.out) (SZ.out) CX.out ?_; intro v6 w6 ho6 tw6 hv6; have hg6 : Below wr.heap.size wr w6 := kn.Tw.below (D5.out) tw6 (fun i hi => by have := (NL.out.blk i hi).1; omega) (D5.out).size; have NL2 := Lib.hid (show kn.Ol (wr.heap.size + 1) v6 (x ++ [kk]) w6 from ho6); have D6 := Lib.hid hg6; have d4 := FX.out w6 hg6; clear ho6 tw6 hv6 hg6)
                    | (refine kn.step_app2 (by rfl) _ _ (by rfl) (by rfl) (wr.heap.size) _ x kk (wr.heap.size + 1) (by rfl) (by rfl) (by omega) (kn.own_dr NL.out) ((D5.out.drew).size) CX.out ?_; intro v6 w6 ho6 tw6 hv6; have hg6 : Below wr.heap.size wr w6 := kn.Tw.below (D5.out.drew) tw6 (fun i hi => by have := (NL.out.blk i hi).1; omega) (D5.out.drew).size; have NL2 := Lib.hid (show kn.Ol (wr.heap.size) v6 (x ++ [kk]) w6 from ho6); have D6 := Lib.hid hg6; have d4 := FX.out w6 hg6; clear ho6 tw6 hv6 hg6)
                    | (refine kn.step_app2 (by rfl) _ _ (by rfl) (by rfl) (wr.heap.size + 1) _ x kk (wr.heap.size) (by rfl) (by rfl) (by omega) (kn.own_dr NL.out) (SZ.out) CX.out ?_; intro v6 w6 ho6 tw6 hv6; have hg6 : Below wr.heap.size wr w6 := kn.Tw.below (D5.out.drew) tw6 (fun i hi => by have := (NL.out.blk i hi).1; omega) (D5.out.drew).size; have NL2 := Lib.hid (show kn.Ol (wr.heap.size + 1) v6 (x ++ [kk]) w6 from ho6); have D6 := Lib.hid hg6; have d4 := FX.out w6 hg6; clear ho6 tw6 hv6 hg6)
                    | (go_at_call 59; (with_reducible refine (RI2.out _ _ NL2.out.ls D6.out).mono ?_); rintro e w7 ⟨rfl, hb7⟩; have D7 := Lib.hid (bl_tr D6.out hb7); have d5 := FX.out w7 D7.out; clear hb7)
                    | fail)
                all_goals
                  replace D7 := Lib.hid (bl_tr HD.out D7.out)
                  have hkk := HKK.out
                  subst hkk
                  clear s0 FX SA RI2
                  by_cases z1 : 0 ≤ c7
                  · by_cases z2 : bb < 0
                    · have E := Lib.hid (LN2.out ⟨z1, .inl z2⟩)
                      go_wp2
                      go_roundw
                      case rel => exact ⟨k + 1, by omega, by go_num, by rw [E.out], D7⟩
                      case measure => simp [intOf]; omega
                    · by_cases z3 : c7 < bb
                      · have E := Lib.hid (LN2.out ⟨z1, .inr z3⟩)
                        go_wp2
                        go_roundw
                        case rel => exact ⟨k + 1, by omega, by go_num, by rw [E.out], D7⟩
                        case measure => simp [intOf]; omega
                      · have E := Lib.hid (LO2.out (fun h => h.2.elim z2 z3))
                        go_wp2
                        go_roundw
                        case rel => exact ⟨k + 1, by omega, by go_num, by rw [E.out], D7⟩
                        case measure => simp [intOf]; omega
                  · have E := Lib.hid (LO2.out (fun h => z1 h.1))
                    go_wp2
                    go_roundw
                    case rel => exact ⟨k + 1, by omega, by go_num, by rw [E.out], D7⟩
                    case measure => simp [intOf]; omega

      · obtain rfl : M = k := by omega
        have q1 : ¬ (M : Int) < (M : Int) := by omega
        have HF := Lib.hid (BA.out.trans (HD.out.mono BA.out.size))
        have q2 : ¬ (M : Int) < N := by omega
        clear hMM
        go_wp2
        first
          | exact ⟨rfl, HF.out⟩
          | (go_ret; exact ⟨rfl, HF.out⟩)
  · go_wp2
    go_loopw [7, 9] (fun v7 i wr => ∃ k : Nat, k ≤ M ∧ i = .int .i64 k ∧ v7 = .int .i64 (blR r K x k) ∧ Hid (Below X.heap.size X wr)) (fun _ i _ => M - (intOf i).toNat)
    case atStart => exact ⟨0, by omega, rfl, by rw [L0.out], hrefl⟩
    case round =>
      clear e0 e1 e2 e3 e4 e5 hrefl
      obtain ⟨k, hk, rfl, rfl, HD⟩ := hrel
      obtain ⟨e0, e1, e2, e3, e4, e5⟩ := HB6.out wr HD.out
      have hMM : (M : Int) = 2 := by have := HM.out; simpa using this
      by_cases hlt : k < M
      · have q1 : (k : Int) < (M : Int) := by omega
        rw [hMM] at q1
        clear hMM
        go_wp2
        go_loopw [10, 11] (fun v10 i wq => ∃ a : Nat, a ≤ ln ∧ i = .int .i64 a ∧ v10 = .bool (uR x (k : Int) a) ∧ wq = wr ∧ (K = 1 → a = 0)) (fun _ i _ => ln - (intOf i).toNat)
        case atStart => exact ⟨0, by omega, rfl, by rw [U0.out], rfl, fun _ => rfl⟩
        case round =>
          obtain ⟨a, ha, rfl, rfl, rfl, hK⟩ := hrel
          obtain rfl : a = 0 := hK (by simpa using hkb)
          have HUB : Hid (uR x (k : Int) 0 = false) := U0.out (k : Int)
          rw [Bool.not_true] at hk1
          by_cases hal : 0 < ln
          · have r1 : (0 : Int) < (ln : Int) := by omega
            clear hK
            clear e0 e1 e2 e3 e4 e5
            obtain ⟨e0, e1, e2, e3, e4, e5⟩ := HB6.out wr HD.out
            generalize uR x (k : Int) 0 = ub at *
            obtain ⟨l0, hl0⟩ : ∃ l0, ((ln : Int) == 0) = l0 := ⟨_, rfl⟩
            obtain ⟨zz, hzz⟩ : ∃ zz, ((k : Int) != 0) = zz := ⟨_, rfl⟩
            have HSq : Hid (skipR K x k = (ub || (k3 && l0 && zz))) := by
              show _ = _
              rw [HSk.out k, hl0, hzz, HUB.out]
              try simp
            have LSk := Lib.hid (LS.out k)
            have LNk := Lib.hid (LN.out k)
            have LOk := Lib.hid (LO.out k)
            have RIk := Lib.hid (fun u Y => RI.out u Y k)
            go_upto_region 18 with fail
            go_cut [71] (fun v71 wx => v71 = .bool (skipR K x k) ∧ wx = wr)
            case first =>
              clear HUB
              cases ub <;> cases k3 <;> cases l0 <;> cases zz
              all_goals
                go_wp2_with fail
                go_meet
                exact ⟨by rw [HSq.out]; rfl, rfl⟩
            case rest =>
              obtain ⟨rfl, hwc⟩ := hcut
              have hwc' := hwc.symm
              subst hwc'
              cases hsk : skipR K x k with
              | true =>
                have E := Lib.hid (LSk.out hsk)
                clear hsk
                generalize blR r K x k = bb at *
                go_wp2
                go_roundw
                case rel => exact ⟨k + 1, by omega, by go_num, by rw [E.out], HD⟩
                case measure => simp [intOf]; omega
              | false =>
                have LN2 : Hid ((0 ≤ r (x ++ [(k : Int)]) ∧ (blR r K x k < 0 ∨ r (x ++ [(k : Int)]) < blR r K x k)) → blR r K x (k + 1) = r (x ++ [(k : Int)])) := LNk.out hsk
                have LO2 : Hid (¬ (0 ≤ r (x ++ [(k : Int)]) ∧ (blR r K x k < 0 ∨ r (x ++ [(k : Int)]) < blR r K x k)) → blR r K x (k + 1) = blR r K x k) := LOk.out hsk
                have HSKK := Lib.hid (And.intro hsk hlt)
                clear hsk LNk LOk LSk HSq HUB
                have FX := Lib.hid (fun (Y : World) (h : Below wr.heap.size wr Y) => HB6.out Y (bl_tr HD.out h))
                have SA := Lib.hid (fun (Y : World) (h : Below wr.heap.size wr Y) => SA0.out Y (bl_tr HD.out h))
                have s0 := FX.out wr (Below.refl _ _)
                have RI2 := Lib.hid (fun u Y (h1 : kn.Ls u (x ++ [(k : Int)]) Y) (h2 : Below wr.heap.size wr Y) => RIk.out u Y HSKK.out.1 HSKK.out.2 h1 (bl_tr HD.out h2))
                generalize r (x ++ [(k : Int)]) = c7 at *
                generalize blR r K x k = bb at *
                obtain ⟨kk, hkk⟩ : ∃ kk : Int, kk = (k : Int) := ⟨_, rfl⟩
                rw [← hkk] at RI2 ⊢
                have HKK := Lib.hid hkk
                clear hkk
                have hlx := HLn.out
                subst hlx
                go_upto_region 19 with fail
                go_region_held3 (fun Y => (Y.cell? ⟨w.heap.size, 0, none⟩ = some (.int .i64 K) ∧ Y.cell? ⟨w.heap.size, 1, none⟩ = some (.int .i64 N) ∧ Y.cell? ⟨w.heap.size, 2, none⟩ = some (.int .i64 C) ∧ Y.cell? ⟨w.heap.size, 3, none⟩ = some v3 ∧ Y.cell? ⟨w.heap.size, 4, none⟩ = some v4 ∧ Y.cell? ⟨w.heap.size, 5, none⟩ = some v5)) (first | exact s0 | exact FX.out _ (bl_al (Below.refl _ wr) _) | exact FX.out _ (bl_al (bl_al (Below.refl _ wr) _) _) | exact FX.out _ (bl_al (Below.refl _ wr) _).drew | exact FX.out _ (bl_al (bl_al (Below.refl _ wr) _) _).drew | exact FX.out _ (od.bl_drew wr) | exact d3 | exact FX.out _ D5.out.drew | exact FX.out _ (bl_al D5.out _) | exact FX.out _ (bl_al D5.out _).drew | exact FX.out _ D6.out.drew | exact FX.out _ D7.out.drew | exact d4 | exact d5)
                    (first
                    | (refine kn.step_app (by rfl) _ _ (by rfl) (by rfl) (wr.heap.size) (wr.heap.size) x pa pc (by rfl) (by rfl) (by omega) (kn.own0 wr).drew (by first | (simp; done) | (simp; omega)) (SA.out _ (bl_al (Below.refl _ wr) (.cells #[] 3)).drew) ?_; intro g cap w5 ho5 hg5 hlt5; have hg6 : Below wr.heap.size wr w5 := (bl_al (Below.refl _ wr) (.cells #[] 3)).grown (kn.undrew_g hg5) (by first | (simp; done) | (simp; omega)) (fun j hj => by simp at hj; omega); have NL := Lib.hid (show kn.Ol (wr.heap.size) (.slice (some ⟨g, 0, none⟩) x.length cap) x w5 from ho5); have D5 := Lib.hid hg6; have d3 := FX.out w5 hg6; clear ho5 hg5 hlt5 hg6)
                    | (refine kn.step_app (by rfl) _ _ (by rfl) (by rfl) (wr.heap.size) (wr.heap.size) x pa pc (by rfl) (by rfl) (by omega) ((kn.own0 wr).alloc (.cells #[.int .i64 kk] 3)).drew (by first | (simp; done) | (simp; omega)) (SA.out _ (bl_al (bl_al (Below.refl _ wr) (.cells #[] 3)) (.cells #[.int .i64 kk] 3)).drew) ?_; intro g cap w5 ho5 hg5 hlt5; have hg6 : Below wr.heap.size wr w5 := (bl_al (bl_al (Below.refl _ wr) (.cells #[] 3)) (.cells #[.int .i64 kk] 3)).grown (kn.undrew_g hg5) (by first | (simp; done) | (simp; omega)) (fun j hj => by simp at hj; omega); have NL := Lib.hid (show kn.Ol (wr.heap.size) (.slice (some ⟨g, 0, none⟩) x.length cap) x w5 from ho5); have D5 := Lib.hid hg6; have d3 := FX.out w5 hg6; have CX := Lib.hid (kn.cx2 (kn.undrew_g hg5)); clear ho5 hg5 hlt5 hg6)
                    | (refine kn.step_app (by rfl) _ _ (by rfl) (by rfl) (wr.heap.size + 1) (wr.heap.size + 1) x pa pc (by rfl) (by rfl) (by omega) (kn.own0b wr _).drew (by first | (simp; done) | (simp; omega)) (SA.out _ (bl_al (bl_al (Below.refl _ wr) (.cells #[.int .i64 kk] 3)) (.cells #[] 3)).drew) ?_; intro g cap w5 ho5 hg5 hlt5; have hg6 : Below wr.heap.size wr w5 := (bl_al (bl_al (Below.refl _ wr) (.cells #[.int .i64 kk] 3)) (.cells #[] 3)).grown (kn.undrew_g hg5) (by first | (simp; done) | (simp; omega)) (fun j hj => by simp at hj; omega); have NL := Lib.hid (show kn.Ol (wr.heap.size + 1) (.slice (some ⟨g, 0, none⟩) x.length cap) x w5 from ho5); have D5 := Lib.hid hg6; have d3 := FX.out w5 hg6; have CX := Lib.hid (kn.cx3 (kn.undrew_g hg5)); have SZ := Lib.hid (show wr.heap.size + 1 ≤ w5.heap.size from by have := hg5.size; simp at this; omega); clear ho5 hg5 hlt5 hg6)
                    | (refine kn.step_app2 (by rfl) _ _ (by rfl) (by rfl) (wr.heap.size) _ x kk (w5.heap.size) (by rfl) (by rfl) (by omega) (kn.own_al0 NL.out (.cells #[.int .i64 kk] 3)) ((bl_al D5.out (.cells #[.int .i64 kk] 3)).size) (kn.cell_al0 w5 kk) ?_; intro v6 w6 ho6 tw6 hv6; have hg6 : Below wr.heap.size wr w6 := kn.Tw.below (bl_al D5.out (.cells #[.int .i64 kk] 3)) tw6 (fun i hi => by have := (NL.out.blk i hi).1; omega) (bl_al D5.out (.cells #[.int .i64 kk] 3)).size; have NL2 := Lib.hid (show kn.Ol (wr.heap.size) v6 (x ++ [kk]) w6 from ho6); have D6 := Lib.hid hg6; have d4 := FX.out w6 hg6; clear ho6 tw6 hv6 hg6)
                    | (refine kn.step_app2 (by rfl) _ _ (by rfl) (by rfl) (wr.heap.size) _ x kk (w5.heap.size) (by rfl) (by rfl) (by omega) (kn.own_al NL.out (.cells #[.int .i64 kk] 3)) ((bl_al D5.out (.cells #[.int .i64 kk] 3)).size) (kn.cell_al w5 kk) ?_; intro v6 w6 ho6 tw6 hv6; have hg6 : Below wr.heap.size wr w6 := kn.Tw.below ((bl_al D5.out (.cells #[.int .i64 kk] 3)).drew) tw6 (fun i hi => by have := (NL.out.blk i hi).1; omega) ((bl_al D5.out (.cells #[.int .i64 kk] 3)).drew).size; have NL2 := Lib.hid (show kn.Ol (wr.heap.size) v6 (x ++ [kk]) w6 from ho6); have D6 := Lib.hid hg6; have d4 := FX.out w6 hg6; clear ho6 tw6 hv6 hg6)
                    | (refine kn.step_app2 (by rfl) _ _ (by rfl) (by rfl) (wr.heap.size) _ x kk (wr.heap.size + 1) (by rfl) (by rfl) (by omega) (NL.out) ((D5.out).size) CX.out ?_; intro v6 w6 ho6 tw6 hv6; have hg6 : Below wr.heap.size wr w6 := kn.Tw.below (D5.out) tw6 (fun i hi => by have := (NL.out.blk i hi).1; omega) (D5.out).size; have NL2 := Lib.hid (show kn.Ol (wr.heap.size) v6 (x ++ [kk]) w6 from ho6); have D6 := Lib.hid hg6; have d4 := FX.out w6 hg6; clear ho6 tw6 hv6 hg6)
                    | (refine kn.step_app2 (by rfl) _ _ (by rfl) (by rfl) (wr.heap.size + 1) _ x kk (wr.heap.size) (by rfl) (by rfl) (by omega) (NL.out) (SZ.out) CX.out ?_; intro v6 w6 ho6 tw6 hv6; have hg6 : Below wr.heap.size wr w6 := kn.Tw.below (D5.out) tw6 (fun i hi => by have := (NL.out.blk i hi).1; omega) (D5.out).size; have NL2 := Lib.hid (show kn.Ol (wr.heap.size + 1) v6 (x ++ [kk]) w6 from ho6); have D6 := Lib.hid hg6; have d4 := FX.out w6 hg6; clear ho6 tw6 hv6 hg6)
                    | (refine kn.step_app2 (by rfl) _ _ (by rfl) (by rfl) (wr.heap.size) _ x kk (wr.heap.size + 1) (by rfl) (by rfl) (by omega) (kn.own_dr NL.out) ((D5.out.drew).size) CX.out ?_; intro v6 w6 ho6 tw6 hv6; have hg6 : Below wr.heap.size wr w6 := kn.Tw.below (D5.out.drew) tw6 (fun i hi => by have := (NL.out.blk i hi).1; omega) (D5.out.drew).size; have NL2 := Lib.hid (show kn.Ol (wr.heap.size) v6 (x ++ [kk]) w6 from ho6); have D6 := Lib.hid hg6; have d4 := FX.out w6 hg6; clear ho6 tw6 hv6 hg6)
                    | (refine kn.step_app2 (by rfl) _ _ (by rfl) (by rfl) (wr.heap.size + 1) _ x kk (wr.heap.size) (by rfl) (by rfl) (by omega) (kn.own_dr NL.out) (SZ.out) CX.out ?_; intro v6 w6 ho6 tw6 hv6; have hg6 : Below wr.heap.size wr w6 := kn.Tw.below (D5.out.drew) tw6 (fun i hi => by have := (NL.out.blk i hi).1; omega) (D5.out.drew).size; have NL2 := Lib.hid (show kn.Ol (wr.heap.size + 1) v6 (x ++ [kk]) w6 from ho6); have D6 := Lib.hid hg6; have d4 := FX.out w6 hg6; clear ho6 tw6 hv6 hg6)
                    | (go_at_call 59; (with_reducible refine (RI2.out _ _ NL2.out.ls D6.out).mono ?_); rintro e w7 ⟨rfl, hb7⟩; have D7 := Lib.hid (bl_tr D6.out hb7); have d5 := FX.out w7 D7.out; clear hb7)
                    | fail)
                all_goals
                  replace D7 := Lib.hid (bl_tr HD.out D7.out)
                  have hkk := HKK.out
                  subst hkk
                  clear s0 FX SA RI2
                  by_cases z1 : 0 ≤ c7
                  · by_cases z2 : bb < 0
                    · have E := Lib.hid (LN2.out ⟨z1, .inl z2⟩)
                      go_wp2
                      go_roundw
                      case rel => exact ⟨k + 1, by omega, by go_num, by rw [E.out], D7⟩
                      case measure => simp [intOf]; omega
                    · by_cases z3 : c7 < bb
                      · have E := Lib.hid (LN2.out ⟨z1, .inr z3⟩)
                        go_wp2
                        go_roundw
                        case rel => exact ⟨k + 1, by omega, by go_num, by rw [E.out], D7⟩
                        case measure => simp [intOf]; omega
                      · have E := Lib.hid (LO2.out (fun h => h.2.elim z2 z3))
                        go_wp2
                        go_roundw
                        case rel => exact ⟨k + 1, by omega, by go_num, by rw [E.out], D7⟩
                        case measure => simp [intOf]; omega
                  · have E := Lib.hid (LO2.out (fun h => z1 h.1))
                    go_wp2
                    go_roundw
                    case rel => exact ⟨k + 1, by omega, by go_num, by rw [E.out], D7⟩
                    case measure => simp [intOf]; omega

          · have r1 : ¬ (0 : Int) < (ln : Int) := by omega
            clear hK
            clear e0 e1 e2 e3 e4 e5
            obtain ⟨e0, e1, e2, e3, e4, e5⟩ := HB6.out wr HD.out
            generalize uR x (k : Int) 0 = ub at *
            obtain ⟨l0, hl0⟩ : ∃ l0, ((ln : Int) == 0) = l0 := ⟨_, rfl⟩
            obtain ⟨zz, hzz⟩ : ∃ zz, ((k : Int) != 0) = zz := ⟨_, rfl⟩
            have HSq : Hid (skipR K x k = (ub || (k3 && l0 && zz))) := by
              show _ = _
              rw [HSk.out k, hl0, hzz, HUB.out]
              try simp
            have LSk := Lib.hid (LS.out k)
            have LNk := Lib.hid (LN.out k)
            have LOk := Lib.hid (LO.out k)
            have RIk := Lib.hid (fun u Y => RI.out u Y k)
            go_upto_region 18 with fail
            go_cut [71] (fun v71 wx => v71 = .bool (skipR K x k) ∧ wx = wr)
            case first =>
              clear HUB
              cases ub <;> cases k3 <;> cases l0 <;> cases zz
              all_goals
                go_wp2_with fail
                go_meet
                exact ⟨by rw [HSq.out]; rfl, rfl⟩
            case rest =>
              obtain ⟨rfl, hwc⟩ := hcut
              have hwc' := hwc.symm
              subst hwc'
              cases hsk : skipR K x k with
              | true =>
                have E := Lib.hid (LSk.out hsk)
                clear hsk
                generalize blR r K x k = bb at *
                go_wp2
                go_roundw
                case rel => exact ⟨k + 1, by omega, by go_num, by rw [E.out], HD⟩
                case measure => simp [intOf]; omega
              | false =>
                have LN2 : Hid ((0 ≤ r (x ++ [(k : Int)]) ∧ (blR r K x k < 0 ∨ r (x ++ [(k : Int)]) < blR r K x k)) → blR r K x (k + 1) = r (x ++ [(k : Int)])) := LNk.out hsk
                have LO2 : Hid (¬ (0 ≤ r (x ++ [(k : Int)]) ∧ (blR r K x k < 0 ∨ r (x ++ [(k : Int)]) < blR r K x k)) → blR r K x (k + 1) = blR r K x k) := LOk.out hsk
                have HSKK := Lib.hid (And.intro hsk hlt)
                clear hsk LNk LOk LSk HSq HUB
                have FX := Lib.hid (fun (Y : World) (h : Below wr.heap.size wr Y) => HB6.out Y (bl_tr HD.out h))
                have SA := Lib.hid (fun (Y : World) (h : Below wr.heap.size wr Y) => SA0.out Y (bl_tr HD.out h))
                have s0 := FX.out wr (Below.refl _ _)
                have RI2 := Lib.hid (fun u Y (h1 : kn.Ls u (x ++ [(k : Int)]) Y) (h2 : Below wr.heap.size wr Y) => RIk.out u Y HSKK.out.1 HSKK.out.2 h1 (bl_tr HD.out h2))
                generalize r (x ++ [(k : Int)]) = c7 at *
                generalize blR r K x k = bb at *
                obtain ⟨kk, hkk⟩ : ∃ kk : Int, kk = (k : Int) := ⟨_, rfl⟩
                rw [← hkk] at RI2 ⊢
                have HKK := Lib.hid hkk
                clear hkk
                have hlx := HLn.out
                subst hlx
                go_upto_region 19 with fail
                go_region_held3 (fun Y => (Y.cell? ⟨w.heap.size, 0, none⟩ = some (.int .i64 K) ∧ Y.cell? ⟨w.heap.size, 1, none⟩ = some (.int .i64 N) ∧ Y.cell? ⟨w.heap.size, 2, none⟩ = some (.int .i64 C) ∧ Y.cell? ⟨w.heap.size, 3, none⟩ = some v3 ∧ Y.cell? ⟨w.heap.size, 4, none⟩ = some v4 ∧ Y.cell? ⟨w.heap.size, 5, none⟩ = some v5)) (first | exact s0 | exact FX.out _ (bl_al (Below.refl _ wr) _) | exact FX.out _ (bl_al (bl_al (Below.refl _ wr) _) _) | exact FX.out _ (bl_al (Below.refl _ wr) _).drew | exact FX.out _ (bl_al (bl_al (Below.refl _ wr) _) _).drew | exact FX.out _ (od.bl_drew wr) | exact d3 | exact FX.out _ D5.out.drew | exact FX.out _ (bl_al D5.out _) | exact FX.out _ (bl_al D5.out _).drew | exact FX.out _ D6.out.drew | exact FX.out _ D7.out.drew | exact d4 | exact d5)
                    (first
                    | (refine kn.step_app (by rfl) _ _ (by rfl) (by rfl) (wr.heap.size) (wr.heap.size) x pa pc (by rfl) (by rfl) (by omega) (kn.own0 wr).drew (by first | (simp; done) | (simp; omega)) (SA.out _ (bl_al (Below.refl _ wr) (.cells #[] 3)).drew) ?_; intro g cap w5 ho5 hg5 hlt5; have hg6 : Below wr.heap.size wr w5 := (bl_al (Below.refl _ wr) (.cells #[] 3)).grown (kn.undrew_g hg5) (by first | (simp; done) | (simp; omega)) (fun j hj => by simp at hj; omega); have NL := Lib.hid (show kn.Ol (wr.heap.size) (.slice (some ⟨g, 0, none⟩) x.length cap) x w5 from ho5); have D5 := Lib.hid hg6; have d3 := FX.out w5 hg6; clear ho5 hg5 hlt5 hg6)
                    | (refine kn.step_app (by rfl) _ _ (by rfl) (by rfl) (wr.heap.size) (wr.heap.size) x pa pc (by rfl) (by rfl) (by omega) ((kn.own0 wr).alloc (.cells #[.int .i64 kk] 3)).drew (by first | (simp; done) | (simp; omega)) (SA.out _ (bl_al (bl_al (Below.refl _ wr) (.cells #[] 3)) (.cells #[.int .i64 kk] 3)).drew) ?_; intro g cap w5 ho5 hg5 hlt5; have hg6 : Below wr.heap.size wr w5 := (bl_al (bl_al (Below.refl _ wr) (.cells #[] 3)) (.cells #[.int .i64 kk] 3)).grown (kn.undrew_g hg5) (by first | (simp; done) | (simp; omega)) (fun j hj => by simp at hj; omega); have NL := Lib.hid (show kn.Ol (wr.heap.size) (.slice (some ⟨g, 0, none⟩) x.length cap) x w5 from ho5); have D5 := Lib.hid hg6; have d3 := FX.out w5 hg6; have CX := Lib.hid (kn.cx2 (kn.undrew_g hg5)); clear ho5 hg5 hlt5 hg6)
                    | (refine kn.step_app (by rfl) _ _ (by rfl) (by rfl) (wr.heap.size + 1) (wr.heap.size + 1) x pa pc (by rfl) (by rfl) (by omega) (kn.own0b wr _).drew (by first | (simp; done) | (simp; omega)) (SA.out _ (bl_al (bl_al (Below.refl _ wr) (.cells #[.int .i64 kk] 3)) (.cells #[] 3)).drew) ?_; intro g cap w5 ho5 hg5 hlt5; have hg6 : Below wr.heap.size wr w5 := (bl_al (bl_al (Below.refl _ wr) (.cells #[.int .i64 kk] 3)) (.cells #[] 3)).grown (kn.undrew_g hg5) (by first | (simp; done) | (simp; omega)) (fun j hj => by simp at hj; omega); have NL := Lib.hid (show kn.Ol (wr.heap.size + 1) (.slice (some ⟨g, 0, none⟩) x.length cap) x w5 from ho5); have D5 := Lib.hid hg6; have d3 := FX.out w5 hg6; have CX := Lib.hid (kn.cx3 (kn.undrew_g hg5)); have SZ := Lib.hid (show wr.heap.size + 1 ≤ w5.heap.size from by have := hg5.size; simp at this; omega); clear ho5 hg5 hlt5 hg6)
                    | (refine kn.step_app2 (by rfl) _ _ (by rfl) (by rfl) (wr.heap.size) _ x kk (w5.heap.size) (by rfl) (by rfl) (by omega) (kn.own_al0 NL.out (.cells #[.int .i64 kk] 3)) ((bl_al D5.out (.cells #[.int .i64 kk] 3)).size) (kn.cell_al0 w5 kk) ?_; intro v6 w6 ho6 tw6 hv6; have hg6 : Below wr.heap.size wr w6 := kn.Tw.below (bl_al D5.out (.cells #[.int .i64 kk] 3)) tw6 (fun i hi => by have := (NL.out.blk i hi).1; omega) (bl_al D5.out (.cells #[.int .i64 kk] 3)).size; have NL2 := Lib.hid (show kn.Ol (wr.heap.size) v6 (x ++ [kk]) w6 from ho6); have D6 := Lib.hid hg6; have d4 := FX.out w6 hg6; clear ho6 tw6 hv6 hg6)
                    | (refine kn.step_app2 (by rfl) _ _ (by rfl) (by rfl) (wr.heap.size) _ x kk (w5.heap.size) (by rfl) (by rfl) (by omega) (kn.own_al NL.out (.cells #[.int .i64 kk] 3)) ((bl_al D5.out (.cells #[.int .i64 kk] 3)).size) (kn.cell_al w5 kk) ?_; intro v6 w6 ho6 tw6 hv6; have hg6 : Below wr.heap.size wr w6 := kn.Tw.below ((bl_al D5.out (.cells #[.int .i64 kk] 3)).drew) tw6 (fun i hi => by have := (NL.out.blk i hi).1; omega) ((bl_al D5.out (.cells #[.int .i64 kk] 3)).drew).size; have NL2 := Lib.hid (show kn.Ol (wr.heap.size) v6 (x ++ [kk]) w6 from ho6); have D6 := Lib.hid hg6; have d4 := FX.out w6 hg6; clear ho6 tw6 hv6 hg6)
                    | (refine kn.step_app2 (by rfl) _ _ (by rfl) (by rfl) (wr.heap.size) _ x kk (wr.heap.size + 1) (by rfl) (by rfl) (by omega) (NL.out) ((D5.out).size) CX.out ?_; intro v6 w6 ho6 tw6 hv6; have hg6 : Below wr.heap.size wr w6 := kn.Tw.below (D5.out) tw6 (fun i hi => by have := (NL.out.blk i hi).1; omega) (D5.out).size; have NL2 := Lib.hid (show kn.Ol (wr.heap.size) v6 (x ++ [kk]) w6 from ho6); have D6 := Lib.hid hg6; have d4 := FX.out w6 hg6; clear ho6 tw6 hv6 hg6)
                    | (refine kn.step_app2 (by rfl) _ _ (by rfl) (by rfl) (wr.heap.size + 1) _ x kk (wr.heap.size) (by rfl) (by rfl) (by omega) (NL.out) (SZ.out) CX.out ?_; intro v6 w6 ho6 tw6 hv6; have hg6 : Below wr.heap.size wr w6 := kn.Tw.below (D5.out) tw6 (fun i hi => by have := (NL.out.blk i hi).1; omega) (D5.out).size; have NL2 := Lib.hid (show kn.Ol (wr.heap.size + 1) v6 (x ++ [kk]) w6 from ho6); have D6 := Lib.hid hg6; have d4 := FX.out w6 hg6; clear ho6 tw6 hv6 hg6)
                    | (refine kn.step_app2 (by rfl) _ _ (by rfl) (by rfl) (wr.heap.size) _ x kk (wr.heap.size + 1) (by rfl) (by rfl) (by omega) (kn.own_dr NL.out) ((D5.out.drew).size) CX.out ?_; intro v6 w6 ho6 tw6 hv6; have hg6 : Below wr.heap.size wr w6 := kn.Tw.below (D5.out.drew) tw6 (fun i hi => by have := (NL.out.blk i hi).1; omega) (D5.out.drew).size; have NL2 := Lib.hid (show kn.Ol (wr.heap.size) v6 (x ++ [kk]) w6 from ho6); have D6 := Lib.hid hg6; have d4 := FX.out w6 hg6; clear ho6 tw6 hv6 hg6)
                    | (refine kn.step_app2 (by rfl) _ _ (by rfl) (by rfl) (wr.heap.size + 1) _ x kk (wr.heap.size) (by rfl) (by rfl) (by omega) (kn.own_dr NL.out) (SZ.out) CX.out ?_; intro v6 w6 ho6 tw6 hv6; have hg6 : Below wr.heap.size wr w6 := kn.Tw.below (D5.out.drew) tw6 (fun i hi => by have := (NL.out.blk i hi).1; omega) (D5.out.drew).size; have NL2 := Lib.hid (show kn.Ol (wr.heap.size + 1) v6 (x ++ [kk]) w6 from ho6); have D6 := Lib.hid hg6; have d4 := FX.out w6 hg6; clear ho6 tw6 hv6 hg6)
                    | (go_at_call 59; (with_reducible refine (RI2.out _ _ NL2.out.ls D6.out).mono ?_); rintro e w7 ⟨rfl, hb7⟩; have D7 := Lib.hid (bl_tr D6.out hb7); have d5 := FX.out w7 D7.out; clear hb7)
                    | fail)
                all_goals
                  replace D7 := Lib.hid (bl_tr HD.out D7.out)
                  have hkk := HKK.out
                  subst hkk
                  clear s0 FX SA RI2
                  by_cases z1 : 0 ≤ c7
                  · by_cases z2 : bb < 0
                    · have E := Lib.hid (LN2.out ⟨z1, .inl z2⟩)
                      go_wp2
                      go_roundw
                      case rel => exact ⟨k + 1, by omega, by go_num, by rw [E.out], D7⟩
                      case measure => simp [intOf]; omega
                    · by_cases z3 : c7 < bb
                      · have E := Lib.hid (LN2.out ⟨z1, .inr z3⟩)
                        go_wp2
                        go_roundw
                        case rel => exact ⟨k + 1, by omega, by go_num, by rw [E.out], D7⟩
                        case measure => simp [intOf]; omega
                      · have E := Lib.hid (LO2.out (fun h => h.2.elim z2 z3))
                        go_wp2
                        go_roundw
                        case rel => exact ⟨k + 1, by omega, by go_num, by rw [E.out], D7⟩
                        case measure => simp [intOf]; omega
                  · have E := Lib.hid (LO2.out (fun h => z1 h.1))
                    go_wp2
                    go_roundw
                    case rel => exact ⟨k + 1, by omega, by go_num, by rw [E.out], D7⟩
                    case measure => simp [intOf]; omega

      · obtain rfl : M = k := by omega
        have q1 : ¬ (M : Int) < (M : Int) := by omega
        have HF := Lib.hid (BA.out.trans (HD.out.mono BA.out.size))
        have q2 : ¬ (M : Int) < 2 := by omega
        clear hMM
        go_wp2
        first
          | exact ⟨rfl, HF.out⟩
          | (go_ret; exact ⟨rfl, HF.out⟩)
end Go.Proofs.YtlhpiikpmmlpeaaDoor
