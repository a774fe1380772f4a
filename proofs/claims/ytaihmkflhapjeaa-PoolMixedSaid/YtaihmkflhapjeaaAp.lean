/-
  Appending to an empty list, an argument that is a list, the reference's Same.
-/
import Derived.Test.YtaihmkflhapjeaaPoK
import Derived.OpenShut
import Derived.Deep.RegionLaw
import Derived.Deep.DeepCutAuto
namespace Go.Proofs.Ytaihmkflhapjeaa
open Go.RowKit Go.MuLone
set_option linter.unusedVariables false
/-- where a list that is appended lies -/
def SrcA (X : World) (a : Option Addr) (c : Nat) (l : List Int) : Prop := (a = none ∧ c = 0 ∧ l = []) ∨ ∃ ad, a = some ad ∧ ∀ j u, (l.map (Value.int .i64))[j]? = some u → X.cell? (ad.add j) = some u
theorem app_run (B g0 : Nat) (l : List Int) (a : Option Addr) (c : Nat) (X : World) (hl : l.length ≤ 1000) (hown : X.ownsRow B 3 1 (.slice (some ⟨g0, 0, none⟩) 0 0) 0 []) (hB : B ≤ X.heap.size) (hs : SrcA X a c l) :
    ∃ g cap X', (Builtin.append_ #[36, 36] 36 #[.slice (some ⟨g0, 0, none⟩) 0 0, .slice a l.length c]).run Try.prog X = .ok (.slice (some ⟨g, 0, none⟩) l.length cap) X' ∧ X'.ownsRow B 3 1 (.slice (some ⟨g, 0, none⟩) l.length cap) l.length (l.map (Value.int .i64)) ∧ X.grownBy X' (some g0) ∧ (g = g0 ∨ X.heap.size ≤ g) := by
  obtain ⟨i0, hi, hz0, hz1, hz2⟩ := info_parts info3
  rcases hs with ⟨rfl, rfl, rfl⟩ | ⟨ad, rfl, hc⟩
  · refine ⟨g0, 0, X, ?_, hown, World.grownBy.refl X _, .inl rfl⟩
    simp [Builtin.append_, run_underlying Try.underlying36, sizeOf, typeInfo, zeroValue, hi, hz0, Builtin.lenOf, Question.forced, run_firstCells_none]
    simp [storeCells]
  · obtain ⟨v', w', hr, h2, h3, h4, h5⟩ := run_append_own_at (P := Try.prog) X B 36 36 3 i0 (.int .i64 0) 1 8 Try.underlying36 hi hz0 hz1 hz2 rfl (by decide) (.slice (some ⟨g0, 0, none⟩) 0 0) 0 [] hown ad l.length c (l.map (Value.int .i64)) (by simp) hc (by simp [Value.oneCell']) (by unfold maxLen; omega) (by omega) hB
    obtain ⟨g, cap, rfl⟩ := own_form h2 (fun e => by have := h4.1 e; simp at this)
    refine ⟨g, cap, w', by simpa using hr, by simpa using h2, h3, ?_⟩
    simp [Value.ownBlock] at h5
    omega
/-- behind an append -/
def AppK (B g0 : Nat) (l : List Int) (X : World) (K : Value → World → Prop) : Prop := ∀ g cap X', X'.ownsRow B 3 1 (.slice (some ⟨g, 0, none⟩) l.length cap) l.length (l.map (Value.int .i64)) → X.grownBy X' (some g0) → (g = g0 ∨ X.heap.size ≤ g) → K (.slice (some ⟨g, 0, none⟩) l.length cap) X'
theorem wp_app {o : Oper} {A : Act} {X : World} {K : Act → World → Prop} {Q : Exit → Act → World → Prop} (s x : Operand) (ho : o.op = .call { callee := .builtin .append, args := #[s, x], argTypes := #[36, 36] }) (hty : o.type = 36)
    (B g0 : Nat) (l : List Int) (a : Option Addr) (c : Nat) (he : A.eval s = .slice (some ⟨g0, 0, none⟩) 0 0) (hx : A.eval x = .slice a l.length c) (hl : l.length ≤ 1000) (hown : X.ownsRow B 3 1 (.slice (some ⟨g0, 0, none⟩) 0 0) 0 []) (hB : B ≤ X.heap.size) (hs : SrcA X a c l)
    (h : AppK B g0 l X fun v X' => K (A.put o.dst v) X') : o.wp Try.prog A X K Q := by
  obtain ⟨g, cap, X', hr, h2, h3, h4⟩ := app_run B g0 l a c X hl hown hB hs
  unfold Oper.wp execOp
  simp only [ho, hty, resolve, invoke, builtin, Sem.run_bind, Sem.run_pure, Result.andThen_ok, List.map_toArray, List.map_cons, List.map_nil, he, hx, hr]
  exact h g cap X' h2 h3 h4
theorem wpList_app {ops : Array Oper} {rest : List Oper} {o : Oper} {A : Act} {X : World} {Q : Exit → Act → World → Prop} (hgd : o.guard = none) (s x : Operand) (ho : o.op = .call { callee := .builtin .append, args := #[s, x], argTypes := #[36, 36] }) (hty : o.type = 36)
    (B g0 : Nat) (l : List Int) (a : Option Addr) (c : Nat) (he : A.eval s = .slice (some ⟨g0, 0, none⟩) 0 0) (hx : A.eval x = .slice a l.length c) (hl : l.length ≤ 1000) (hown : X.ownsRow B 3 1 (.slice (some ⟨g0, 0, none⟩) 0 0) 0 []) (hB : B ≤ X.heap.size) (hs : SrcA X a c l)
    (h : AppK B g0 l X fun v X' => wpList Try.prog ops Q rest (A.put o.dst v) X') : wpList Try.prog ops Q (o :: rest) A X :=
  wpList_plain hgd fun _ hK => wp_app s x ho hty B g0 l a c he hx hl hown hB hs fun g cap X' h2 h3 h4 => hK _ _ (h g cap X' h2 h3 h4)
theorem step_app {ops : Array Oper} {o : Oper} {A : Act} {X : World} {K : Act → World → Prop} {Q : Exit → Act → World → Prop} {E : Prop} (hgd : o.guard = none) (s x : Operand) (ho : o.op = .call { callee := .builtin .append, args := #[s, x], argTypes := #[36, 36] }) (hty : o.type = 36)
    (B g0 : Nat) (l : List Int) (a : Option Addr) (c : Nat) (he : A.eval s = .slice (some ⟨g0, 0, none⟩) 0 0) (hx : A.eval x = .slice a l.length c) (hl : l.length ≤ 1000) (hown : X.ownsRow B 3 1 (.slice (some ⟨g0, 0, none⟩) 0 0) 0 []) (hB : B ≤ X.heap.size) (hs : SrcA X a c l)
    (h : AppK B g0 l X fun v X' => K (A.put o.dst v) X') : if Region.wanted o (yielded ops A.tmps) = true then Oper.wp Try.prog o A X K Q else E := by
  have hw : Region.wanted o (yielded ops A.tmps) = true := by simp [Region.wanted, hgd]
  rw [if_pos hw]
  exact wp_app s x ho hty B g0 l a c he hx hl hown hB hs h
section
open Go.ChangeShapes Go.WideShapes
theorem nth_take {zs : List Int} {m j : Nat} (hj : j < (zs.take m).length) : nth (zs.take m) j = zs.getD j 0 := by
  have h : j < m := by simp at hj; omega
  unfold nth
  rw [List.getElem?_take, if_pos h]
  simp
theorem arg_of (K : Nat) {W : World} {a : Option Addr} {n c : Nat} {zs : List Int} (hz : zs.length = c) (hn : n ≤ c) (hc : c ≤ maxLen) (ha : a = none → c = 0)
    (hcell : ∀ a', a = some a' → ∀ j, j < c → W.cell? (a'.add j) = some (.int .i64 (zs.getD j 0))) : Arg K W a n c (zs.take (min n K)) := by
  have hc' : c ≤ 9223372036854775807 := by unfold maxLen at hc; omega
  by_cases h0 : n = 0
  · subst h0
    cases a with
    | none => exact Or.inl ⟨rfl, rfl, ha rfl, by simp⟩
    | some ad => exact Or.inr (Or.inl ⟨ad, rfl, rfl, hc', by simp⟩)
  · cases a with
    | none => have := ha rfl; omega
    | some x =>
      obtain ⟨b, off, rfl, hb⟩ := ints_at (zs := zs) (fun i hi => hcell x rfl i (by omega)) (by omega)
      refine Or.inr (Or.inr ⟨b, off, rfl, hn, hc', block_lt_of_cell (hb 0 (by omega)), fun j hj => ?_, ?_⟩)
      · rw [nth_take hj]
        simp at hj
        exact hb j (by omega)
      · rw [List.length_take]; omega
theorem open_arg (K : Nat) {H : Type} {enc : TypeId × Value → H} {W : World} {n : Nat} {v : Value} {y : DataW H × List MemPlace} (h : DataW.trod enc Try.prog W 0 (fun _ => true) true n 36 [v] = some y) :
    ∃ (a : Option Addr) (m c : Nat) (l : List Int), v = .slice a m c ∧ Arg K W a m c l := by
  rcases open_ints Try.underlying36 Try.underlying3 (by kernel_rfl) h with ⟨hcs, _⟩ | ⟨x, m, c, zs, hcs, _, hl, hm, hz, _, hcell, _⟩
  · have e : v = .slice none 0 0 := by simpa using hcs
    exact ⟨_, _, _, _, e, arg_of K (zs := []) rfl (Nat.le_refl _) (by unfold maxLen; omega) (fun _ => rfl) (fun a' h => by cases h)⟩
  · have e : v = .slice (some x) m c := by simpa using hcs
    simp only [if_true] at hz
    exact ⟨_, _, _, _, e, arg_of K hz hl hm (fun h => by cases h) (fun a' e j hj => by cases e; exact hcell j (by omega))⟩
end
theorem sl_run (w : World) (a : Option Addr) (n c : Nat) (l : List Int) (h : Arg 70 w a n c l) : ∀ W : World, (Instr.sliceAt 36 (.slice a n c) none (some (.int .i64 (l.length : Int))) none).run Try.prog W = .ok (.slice a l.length c) W := fun W => by
  rcases h with ⟨rfl, rfl, rfl, rfl⟩ | ⟨ad, rfl, rfl, q2, rfl⟩ | ⟨b, o, rfl, q1, q2, q3, q4, q5⟩
  · go_simp
  · go_simp
  · have h1 : (l.length : Int) ≤ (c : Int) := by omega
    go_simp
theorem sl_run2 (w : World) (a : Option Addr) (n c : Nat) (l : List Int) (h : Arg 70 w a n c l) : ∀ W : World, (Instr.slice 36 (.slice a n c) none (some (.int .i64 (l.length : Int))) none).run Try.prog W = .ok (.slice a l.length c) W := fun W => by
  rcases h with ⟨rfl, rfl, rfl, rfl⟩ | ⟨ad, rfl, rfl, q2, rfl⟩ | ⟨b, o, rfl, q1, q2, q3, q4, q5⟩
  · go_simp
  · go_simp
  · have h1 : (l.length : Int) ≤ (c : Int) := by omega
    go_simp
set_option maxHeartbeats 1000000 in
theorem same_core (x y : List Int) (b : Bool) (hl : y.length = x.length) (hb : b = true ↔ ∀ j, j < x.length → nth x j = nth y j) (hn : x.length ≤ 1000) (xa ya : Option Addr) (xc yc : Nat) (w : World) (h1 : Ints w xa x) (h2 : Ints w ya y) :
    Calls Try.prog 27 #[.slice xa x.length xc, .slice ya y.length yc] w fun e w' => e = .returned (.bool b) ∧ Below w.heap.size w w' := by
  have HX := Lib.hid h1
  have HY := Lib.hid (fun j (hj : j < x.length) => h2 j (by omega))
  have HB := Lib.hid hb
  rw [hl]
  clear h1 h2 hl hb
  have HXl := Lib.hid (fun j (hj : j < x.length) => HX.out j hj)
  clear HX
  generalize x.length = n at *
  go_enter Try.func27, Try.ntmps27
  go_wp2
  go_loopw [5] (fun i wr => ∃ k : Nat, k ≤ n ∧ i = .int .i64 k ∧ Hid (∀ j, j < k → nth x j = nth y j) ∧ ∃ m, wr = w.drewN m) (fun i _ => n - (intOf i).toNat)
  case atStart => exact ⟨0, by omega, rfl, fun j hj => absurd hj (by omega), 0, rfl⟩
  case round =>
    obtain ⟨k, hk, rfl, HE, m, rfl⟩ := hrel
    have kb1 : (0 : Int) ≤ (k : Int) := by omega
    by_cases hlt : k < n
    · have kb2 : (k : Int) < (n : Int) := by omega
      obtain ⟨b1, o1, rfl, l1, c1⟩ := HXl.out k hlt
      obtain ⟨b2, o2, rfl, l2, c2⟩ := HY.out k hlt
      by_cases he : nth x k = nth y k
      · have HE2 : Hid (∀ j, j < k + 1 → nth x j = nth y j) := fun j hj => by
          rcases Nat.lt_or_ge j k with h | h
          · exact HE.out j h
          · obtain rfl : j = k := by omega
            exact he
        rw [← he] at c2
        generalize nth x k = t at *
        have e1 : (t != t) = false := by simp
        clear he
        go_wp2
        go_quiet (fail)
        go_wp2
        go_roundw
        case rel => exact ⟨k + 1, by omega, by go_num, HE2, _, rfl⟩
        case measure => simp [intOf]; omega
      · have hbf : b = false := by
          cases b
          · rfl
          · exact absurd (HB.out.1 rfl k hlt) he
        subst hbf
        generalize nth x k = t at *
        generalize nth y k = s at *
        have e1 : (t != s) = true := by simpa using he
        clear he
        go_wp2
        go_quiet (fail)
        go_wp2
        go_ret
        exact ⟨rfl, bl_dn (bl_dn (Below.refl _ _) _) _⟩
    · obtain rfl : n = k := by omega
      have hbt : b = true := HB.out.2 HE.out
      subst hbt
      go_wp2
      go_ret
      exact ⟨rfl, bl_dn (Below.refl _ _) _⟩
theorem same_any (x y : List Int) (hn : x.length ≤ 1000) (hy : y.length ≤ 1000) (xa ya : Option Addr) (xc yc : Nat) (w : World) (h1 : Ints w xa x) (h2 : Ints w ya y) :
    Calls Try.prog 27 #[.slice xa x.length xc, .slice ya y.length yc] w fun e w' => e = .returned (.bool (decide (x = y))) ∧ Below w.heap.size w w' := by
  by_cases hl : y.length = x.length
  · refine same_core x y _ hl ?_ hn xa ya xc yc w h1 h2
    simp only [decide_eq_true_eq]
    exact ⟨fun h => by subst h; exact fun _ _ => rfl, fun h => nth_ext x y hl.symm h⟩
  · have e : decide (x = y) = false := by
      simp only [decide_eq_false_iff_not]; intro h; subst h; exact hl rfl
    rw [e]
    clear e h1 h2
    generalize x.length = n at *
    generalize y.length = m at *
    have e1 : ((n : Int) != (m : Int)) = true := by simp; omega
    go_enter Try.func27, Try.ntmps27
    go_wp2
    go_ret
    exact ⟨rfl, Below.refl _ _⟩
theorem Lst.ints {B : Nat} {v : Value} {l : List Int} {w : World} (h : Lst B v l w) : ∃ a c, v = .slice a l.length c ∧ Ints w a l := by
  rcases h with ⟨rfl, rfl⟩ | ⟨g, cap, cur, rfl, h2, h3, h4, h5, h6⟩
  · exact ⟨none, 0, rfl, fun j hj => by simp at hj⟩
  · exact ⟨_, _, rfl, fun j hj => ⟨g, 0, rfl, lt_hp h5, by rw [Nat.zero_add]; exact h6 j hj⟩⟩
theorem same_l (B C : Nat) (v u : Value) (x y : List Int) (hx : x.length ≤ 1000) (hy : y.length ≤ 1000) (w : World) (h1 : Lst B v x w) (h2 : Lst C u y w) : Calls Try.prog 27 #[v, u] w fun e w' => e = .returned (.bool (decide (x = y))) ∧ Below w.heap.size w w' := by
  obtain ⟨a1, c1, rfl, i1⟩ := h1.ints
  obtain ⟨a2, c2, rfl, i2⟩ := h2.ints
  exact same_any x y hx hy _ _ _ _ w i1 i2
/-- m numbers in a block, whatever they are -/
def Junk (g m : Nat) (w : World) : Prop := (∃ cur, w.heap[g]? = some (.cells cur 3 (0, 0))) ∧ ∀ j, j < m → ∃ x, w.cell? ⟨g, j, none⟩ = some (.int .i64 x)
theorem Junk.lst {B : Nat} {v : Value} {l : List Int} {w : World} (h : Lst B v l w) : (v = .slice none 0 0 ∧ l = []) ∨ ∃ g cap, v = .slice (some ⟨g, 0, none⟩) l.length cap ∧ B ≤ g ∧ l.length ≤ cap ∧ cap ≤ 9223372036854775807 ∧ Junk g l.length w := by
  rcases h with h | ⟨g, cap, cur, h1, h2, h3, h4, h5, h6⟩
  · exact .inl h
  · exact .inr ⟨g, cap, h1, h2, h3, h4, ⟨cur, h5⟩, fun j hj => ⟨_, h6 j hj⟩⟩
theorem Junk.up {g m : Nat} {w w1 : World} (h : Junk g m w) (k : Tw [] w w1) : Junk g m w1 := by
  obtain ⟨⟨cur, hc⟩, h2⟩ := h
  exact ⟨⟨cur, blk_tw hc k (by simp)⟩, fun j hj => by rw [cell_tw k (lt_hp hc) (by simp)]; exact h2 j hj⟩
theorem Junk.fz {g m : Nat} {w : World} (h : Junk g m w) (j : Nat) : w.frozen? ⟨g, j, none⟩ = false := by
  obtain ⟨⟨cur, hc⟩, h2⟩ := h
  simp [World.frozen?, hc]
theorem Junk.st {g m : Nat} {w : World} (h : Junk g m w) (j : Nat) (x : Int) : Junk g m (w.setCell ⟨g, j, none⟩ (.int .i64 x)) := by
  obtain ⟨⟨cur, hc⟩, h2⟩ := h
  refine ⟨⟨_, blk_set hc j (.int .i64 x)⟩, fun i hi => ?_⟩
  by_cases e : i = j
  · subst e
    refine ⟨x, ?_⟩
    obtain ⟨y, hy⟩ := h2 i hi
    have : i < cur.size := by
      simp [World.cell?, hc] at hy
      exact (Array.getElem?_eq_some_iff.mp hy).1
    simp [World.cell?, blk_set hc i (.int .i64 x), this]
  · obtain ⟨y, hy⟩ := h2 i hi
    refine ⟨y, ?_⟩
    have e' : ¬ j = i := fun h => e h.symm
    simp [World.cell?, hc] at hy
    simp [World.cell?, blk_set hc j (.int .i64 x), e', hy]
end Go.Proofs.Ytaihmkflhapjeaa
