/-
  knap: words for blocks and lists in memory.
-/
import Derived.Test.YteoionlnnjcggaaCopy
import Derived.OpenShut
import Derived.Laws.AppendOwn
import Derived.Laws.OwnMore
import Derived.Deep.AppendLies
import Derived.Maps.AppendAt
import Derived.Deep.QuietTactic
import Derived.BigQuiet
import Derived.Deep.RegionWith
import Derived.Deep.RegionHeld3
import Derived.Deep.RegionLaw
import Derived.BigRegion
import Derived.Deep.Cut
import Derived.Below
import Derived.Laws.MakeOwn
namespace Go.Proofs.Yteoionlnnjcggaa.kn
open Go.RowKit
set_option linter.unusedVariables false
theorem bl_al {a w : World} (h : Below a.heap.size a w) (o : Obj) : Below a.heap.size a (w.alloc o) := h.alloc h.size o
theorem bl_tr {a w w' : World} (h : Below a.heap.size a w) (k : Below w.heap.size w w') : Below a.heap.size a w' := h.trans (k.mono h.size)
theorem bl_dn {B : Nat} {a w : World} (h : Below B a w) (n : Nat) : Below B a (w.drewN n) := ⟨h.os, h.tape, h.output, h.size, h.block⟩
theorem bl_it (w : World) (s : ByteArray) (p : Nat) : Below w.heap.size w (w.iter s p) := by
  unfold World.iter
  exact bl_al (Below.refl _ _) _


theorem lt_hp {w : World} {k : Nat} {o : Obj} (h : w.heap[k]? = some o) : k < w.heap.size := by
  rcases Nat.lt_or_ge k w.heap.size with hlt | hge
  · exact hlt
  · rw [Array.getElem?_eq_none hge] at h; cases h
theorem blk_set {w : World} {g : Nat} {cs : Array Value} {t : TypeId} (h : w.heap[g]? = some (.cells cs t (0, 0))) (j : Nat) (v : Value) : (w.setCell ⟨g, j, none⟩ v).heap[g]? = some (.cells (cs.setIfInBounds j v) t (0, 0)) := heap_setCell_same w g j cs t v h
theorem blk_oth {w : World} {g q : Nat} {o : Obj} (h : w.heap[g]? = some o) (hne : g ≠ q) (j : Nat) (v : Value) : (w.setCell ⟨q, j, none⟩ v).heap[g]? = some o := (Below.heap_setCell w ⟨q, j, none⟩ v g hne).trans h
theorem bl_drew (X : World) : Below X.heap.size X X.drew := ⟨rfl, rfl, rfl, Nat.le_refl _, fun _ _ => rfl⟩
/-- the blocks of a list may have turned, and there may be new ones -/
structure Tw (S : List Nat) (w w' : World) : Prop where
  os : w'.os = w.os
  tape : w'.tape = w.tape
  output : w'.output = w.output
  size : w.heap.size ≤ w'.heap.size
  block : ∀ i, i < w.heap.size → i ∉ S → w'.heap[i]? = w.heap[i]?
theorem Tw.refl (S : List Nat) (w : World) : Tw S w w := ⟨rfl, rfl, rfl, Nat.le_refl _, fun _ _ _ => rfl⟩
theorem Tw.trans {S : List Nat} {w w1 w2 : World} (h : Tw S w w1) (k : Tw S w1 w2) : Tw S w w2 :=
  ⟨k.os.trans h.os, k.tape.trans h.tape, k.output.trans h.output, Nat.le_trans h.size k.size, fun i hi hn => (k.block i (Nat.lt_of_lt_of_le hi h.size) hn).trans (h.block i hi hn)⟩
theorem Tw.mono {S T : List Nat} {w w1 : World} (h : Tw S w w1) (k : ∀ i, i ∈ S → i ∈ T) : Tw T w w1 := ⟨h.os, h.tape, h.output, h.size, fun i hi hn => h.block i hi (fun hs => hn (k i hs))⟩
theorem Tw.al {S : List Nat} {w w1 : World} (h : Tw S w w1) (o : Obj) : Tw S w (w1.alloc o) :=
  ⟨h.os, h.tape, h.output, Nat.le_trans h.size (by simp), fun i hi hn => (Below.heap_alloc w1 o i (Nat.lt_of_lt_of_le hi h.size)).trans (h.block i hi hn)⟩
theorem Tw.dn {S : List Nat} {w w1 : World} (h : Tw S w w1) (n : Nat) : Tw S w (w1.drewN n) := ⟨h.os, h.tape, h.output, h.size, h.block⟩
theorem Tw.dr {S : List Nat} {w w1 : World} (h : Tw S w w1) : Tw S w w1.drew := ⟨h.os, h.tape, h.output, h.size, h.block⟩
theorem Tw.undr {S : List Nat} {w w1 : World} (h : Tw S w.drew w1) : Tw S w w1 := ⟨h.os, h.tape, h.output, h.size, h.block⟩
theorem Tw.st {S : List Nat} {w w1 : World} (h : Tw S w w1) (q : Nat) (hq : q ∈ S ∨ w.heap.size ≤ q) (j : Nat) (v : Value) : Tw S w (w1.setCell ⟨q, j, none⟩ v) :=
  ⟨h.os, h.tape, h.output, by simpa [World.setCell] using h.size, fun i hi hn => (Below.heap_setCell w1 ⟨q, j, none⟩ v i (by show i ≠ q; rintro rfl; rcases hq with hq | hq; exact hn hq; omega)).trans (h.block i hi hn)⟩
theorem Tw.of {S : List Nat} {w w1 : World} (h : Below w.heap.size w w1) : Tw S w w1 := ⟨h.os, h.tape, h.output, h.size, fun i hi _ => h.block i hi⟩
theorem Tw.below {S : List Nat} {B : Nat} {a w w1 : World} (h : Below B a w) (k : Tw S w w1) (hS : ∀ i, i ∈ S → B ≤ i) (hB : B ≤ w.heap.size) : Below B a w1 :=
  ⟨k.os.trans h.os, k.tape.trans h.tape, k.output.trans h.output, Nat.le_trans h.size k.size, fun i hi => (k.block i (by omega) (fun hs => by have := hS i hs; omega)).trans (h.block i hi)⟩
theorem blk_tw {S : List Nat} {p : Nat} {o : Obj} {w w1 : World} (h : w.heap[p]? = some o) (q : Tw S w w1) (h1 : p ∉ S) : w1.heap[p]? = some o := (q.block p (lt_hp h) h1).trans h
theorem cell_tw {S : List Nat} {p : Nat} {w w1 : World} (q : Tw S w w1) (hp : p < w.heap.size) (h1 : p ∉ S) (j : Nat) : w1.cell? ⟨p, j, none⟩ = w.cell? ⟨p, j, none⟩ := by simp [World.cell?, q.block p hp h1]
theorem blk_ty {w : World} {p q : Nat} {c d : Array Value} {t u : TypeId} (h1 : w.heap[p]? = some (.cells c t (0, 0))) (h2 : w.heap[q]? = some (.cells d u (0, 0))) (ht : t ≠ u) : p ≠ q := by
  rintro rfl
  rw [h1] at h2
  simp at h2
  exact ht h2.2

/-- a list of numbers that a walk has built -/
def Ol (B : Nat) (v : Value) (L : List Int) (w : World) : Prop := w.ownsRow B 3 1 v L.length (L.map (Value.int .i64))
def vb : Value → List Nat
  | .slice (some ⟨g, _, _⟩) _ _ => [g]
  | _ => []
theorem Ol.blk {B : Nat} {v : Value} {L : List Int} {w : World} (h : Ol B v L w) : ∀ i, i ∈ vb v → B ≤ i ∧ ∃ cur, w.heap[i]? = some (.cells cur 3 (0, 0)) := fun i hi => by
  rcases h.2 with ⟨rfl, _⟩ | ⟨g, cap, cur, rfl, hg, hh, r⟩
  · simp [vb] at hi
  · simp [vb] at hi
    subst hi
    exact ⟨hg, cur, hh⟩
theorem Ol.keep {B : Nat} {v : Value} {L : List Int} {S : List Nat} {w w1 : World} (h : Ol B v L w) (k : Tw S w w1) (hS : ∀ i, i ∈ S → i ∉ vb v) : Ol B v L w1 := by
  refine ⟨h.1, ?_⟩
  rcases h.2 with hn | ⟨g, cap, cur, rfl, hg, hh, r⟩
  · exact Or.inl hn
  · exact Or.inr ⟨g, cap, cur, rfl, hg, blk_tw hh k (fun hm => hS g hm (by simp [vb])), r⟩
theorem Ol.far {B c : Nat} {v : Value} {L : List Int} {w : World} {C : Array Value} {t : TypeId} (h : Ol B v L w) (hc : w.heap[c]? = some (.cells C t (0, 0))) (ht : t ≠ 3) : c ∉ vb v := fun hm => by
  obtain ⟨_, cur, h1⟩ := h.blk c hm
  exact absurd rfl (blk_ty hc h1 ht)
theorem Ol.form {B : Nat} {v : Value} {L : List Int} {w : World} (h : Ol B v L w) : ∃ a c, v = .slice a L.length c := by
  rcases h.2 with ⟨h1, h2⟩ | ⟨g, cap, cur, h1, _⟩
  · rw [h2]; exact ⟨_, _, h1⟩
  · exact ⟨_, _, h1⟩
theorem ol_nil (B : Nat) (w : World) : Ol B (.slice none 0 0) [] w := ⟨rfl, .inl ⟨rfl, rfl⟩⟩
theorem info3 : (Try.prog.info? 3).map (fun i => (i.zero, i.size, i.bytes)) = some (some (.int .i64 0), 1, 8) := by kernel_rfl
theorem vb_own (v : Value) (b : Nat) : b ∈ vb v ↔ v.ownBlock = some b := by
  cases v with
  | slice a n c =>
    cases a with
    | none => simp [vb, Value.ownBlock]
    | some ad =>
      obtain ⟨g, o, p⟩ := ad
      simp [vb, Value.ownBlock, eq_comm]
  | _ => simp [vb, Value.ownBlock]
theorem step_app1 {ops : Array Oper} {o : Oper} {A : Act} {X : World} {K : Act → World → Prop} {Q : Exit → Act → World → Prop} {E : Prop} (hgd : o.guard = none) (s x : Operand) (ho : o.op = .call { callee := .builtin .append, args := #[s, x], argTypes := #[22, 22] }) (hty : o.type = 22)
    (B : Nat) (v : Value) (L : List Int) (m : Int) (g1 : Nat) (he : A.eval s = v) (hx : A.eval x = .slice (some ⟨g1, 0, none⟩) 1 1) (hl : L.length ≤ 900) (hown : Ol B v L X) (hB : B ≤ X.heap.size) (hc : X.cell? ⟨g1, 0, none⟩ = some (.int .i64 m))
    (h : ∀ v' X', Ol B v' (L ++ [m]) X' → Tw (vb v) X X' → K (A.put o.dst v') X') : if Region.wanted o (yielded ops A.tmps) = true then Oper.wp Try.prog o A X K Q else E := by
  have hw : Region.wanted o (yielded ops A.tmps) = true := by simp [Region.wanted, hgd]
  rw [if_pos hw]
  obtain ⟨i0, hi, hz0, hz1, hz2⟩ := info_parts info3
  obtain ⟨v', w', hr, h2, h3, h4, h5⟩ := run_append_own_at (P := Try.prog) X B 22 22 3 i0 (.int .i64 0) 1 8 Try.underlying22 hi hz0 hz1 hz2 rfl (by decide) v L.length (L.map (Value.int .i64)) hown ⟨g1, 0, none⟩ 1 1 [.int .i64 m] (by simp) (fun j u hj => by
    cases j with
    | zero => simp at hj; subst hj; exact hc
    | succ j => simp at hj) (by simp [Value.oneCell']) (by unfold maxLen; omega) (by omega) hB
  unfold Oper.wp execOp
  simp only [ho, hty, resolve, invoke, builtin, Sem.run_bind, Sem.run_pure, Result.andThen_ok, List.map_toArray, List.map_cons, List.map_nil, he, hx, hr]
  refine h v' w' ?_ ⟨h3.os, h3.tape, h3.output, h3.size, fun b hb hn => h3.block b hb (fun e => hn ((vb_own v b).mpr e.symm))⟩
  show w'.ownsRow B 3 1 v' (L ++ [m]).length ((L ++ [m]).map (Value.int .i64))
  rw [List.map_append, List.length_append]
  exact h2
theorem Ol.mono {B C : Nat} {v : Value} {L : List Int} {w : World} (h : Ol B v L w) (hc : C ≤ B) : Ol C v L w := by
  refine ⟨h.1, ?_⟩
  rcases h.2 with hn | ⟨g, cap, cur, e, hg, r⟩
  · exact .inl hn
  · exact .inr ⟨g, cap, cur, e, Nat.le_trans hc hg, r⟩
theorem wpList_app1 {ops : Array Oper} {rest : List Oper} {o : Oper} {A : Act} {X : World} {Q : Exit → Act → World → Prop} (hgd : o.guard = none) (s x : Operand) (ho : o.op = .call { callee := .builtin .append, args := #[s, x], argTypes := #[22, 22] }) (hty : o.type = 22)
    (B : Nat) (v : Value) (L : List Int) (m : Int) (g1 : Nat) (he : A.eval s = v) (hx : A.eval x = .slice (some ⟨g1, 0, none⟩) 1 1) (hl : L.length ≤ 900) (hown : Ol B v L X) (hB : B ≤ X.heap.size) (hc : X.cell? ⟨g1, 0, none⟩ = some (.int .i64 m))
    (h : ∀ v' X', Ol B v' (L ++ [m]) X' → Tw (vb v) X X' → wpList Try.prog ops Q rest (A.put o.dst v') X') : wpList Try.prog ops Q (o :: rest) A X :=
  wpList_plain hgd fun K hK => by
    have hw : Region.wanted o (yielded ops A.tmps) = true := by simp [Region.wanted, hgd]
    have := step_app1 (ops := ops) (K := K) (Q := Q) (E := True) hgd s x ho hty B v L m g1 he hx hl hown hB hc (fun v' X' h1 h2 => hK _ _ (h v' X' h1 h2))
    rw [if_pos hw] at this
    exact this

def nt (L : List Int) (j : Nat) : Int := L[j]?.getD 0
theorem nt_at (L : List Int) (j : Nat) (h : j < L.length) : L[j]? = some (nt L j) := by unfold nt; rw [List.getElem?_eq_getElem h]; rfl
theorem nt_mem (L : List Int) (j : Nat) (h : j < L.length) : nt L j ∈ L := List.mem_of_getElem? (nt_at L j h)
/-- a list of numbers, wherever it lies -/
def Ls (v : Value) (L : List Int) (w : World) : Prop := (∃ a c, v = .slice a 0 c ∧ L = []) ∨ ∃ g o c, v = .slice (some ⟨g, o, none⟩) L.length c ∧ L.length ≤ c ∧ g < w.heap.size ∧ ∀ j, j < L.length → w.cell? ⟨g, o + j, none⟩ = some (.int .i64 (nt L j))
theorem Ls.up {v : Value} {L : List Int} {w w1 : World} (h : Ls v L w) (k : Below w.heap.size w w1) : Ls v L w1 := by
  rcases h with h | ⟨g, o, c, h1, h2, h3, h4⟩
  · exact .inl h
  · exact .inr ⟨g, o, c, h1, h2, Nat.lt_of_lt_of_le h3 k.size, fun j hj => (k.cell (p := ⟨g, o + j, none⟩) h3).trans (h4 j hj)⟩
theorem Ls.form {v : Value} {L : List Int} {w : World} (h : Ls v L w) : ∃ a c, v = .slice a L.length c := by
  rcases h with ⟨a, c, h1, h2⟩ | ⟨g, o, c, h1, _⟩
  · subst h2; exact ⟨a, c, h1⟩
  · exact ⟨_, _, h1⟩
theorem cell_take {w : World} {g : Nat} {cur : Array Value} {t : TypeId} {xs : List Value} {n j : Nat} {x : Value} (hh : w.heap[g]? = some (.cells cur t (0, 0))) (hx : cur.toList.take n = xs) (hj : xs[j]? = some x) : w.cell? ⟨g, j, none⟩ = some x := by
  rw [← hx, List.getElem?_take] at hj
  split at hj
  · simp [World.cell?, hh]
    simpa using hj
  · cases hj
theorem Ol.ls {B : Nat} {v : Value} {L : List Int} {w : World} (h : Ol B v L w) : Ls v L w := by
  rcases h.2 with ⟨h1, h2⟩ | ⟨g, cap, cur, h1, h2, h3, h4, h5, h6, h7⟩
  · have : L = [] := List.length_eq_zero_iff.mp h2
    exact .inl ⟨none, 0, h1, this⟩
  · exact .inr ⟨g, 0, cap, h1, h4, lt_hp h3, fun j hj => by
      rw [Nat.zero_add]
      exact cell_take h3 h7 (by rw [List.getElem?_map, nt_at L j hj]; rfl)⟩

theorem nt_get (l : List Int) (j : Nat) (h : j < l.length) : nt l j = l[j] := by unfold nt; rw [List.getElem?_eq_getElem h]; rfl
/-- a list that came in: its first K numbers -/
def Arg (K : Nat) (W : World) (a : Option Addr) (n c : Nat) (l : List Int) : Prop :=
  (a = none ∧ n = 0 ∧ c = 0 ∧ l = []) ∨ (∃ ad, a = some ad ∧ n = 0 ∧ c ≤ 9223372036854775807 ∧ l = []) ∨
  ∃ b o, a = some ⟨b, o, none⟩ ∧ n ≤ c ∧ c ≤ 9223372036854775807 ∧ b < W.heap.size ∧ (∀ j, j < l.length → W.cell? ⟨b, o + j, none⟩ = some (.int .i64 (nt l j))) ∧ ((n ≤ K ∧ l.length = n) ∨ (K < n ∧ l.length = K))
theorem Arg.len {K : Nat} {W : World} {a : Option Addr} {n c : Nat} {l : List Int} (h : Arg K W a n c l) : l.length ≤ K ∧ l.length ≤ n ∧ min (n : Int) K = (l.length : Int) := by
  rcases h with ⟨_, rfl, _, rfl⟩ | ⟨_, _, rfl, _, rfl⟩ | ⟨b, o, e, h1, h2, h3, h4, h5⟩
  · simp
    omega
  · simp
    omega
  · omega
section
open Go.ChangeShapes Go.WideShapes
theorem nt_take {zs : List Int} {m j : Nat} (hj : j < (zs.take m).length) : nt (zs.take m) j = zs.getD j 0 := by
  have h : j < m := by simp at hj; omega
  unfold nt
  rw [List.getElem?_take, if_pos h]
  simp
theorem arg_of (K : Nat) {W : World} {a : Option Addr} {n c : Nat} {zs : List Int} (hz : zs.length = c) (hn : n ≤ c) (hc : c ≤ maxLen) (ha : a = none → c = 0)
    (hcell : ∀ a', a = some a' → ∀ j, j < c → W.cell? (a'.add j) = some (.int .i64 (zs.getD j 0))) : Arg K W a n c (zs.take (min n K)) := by
  have hc' : c ≤ 9223372036854775807 := by unfold maxLen at hc; omega
  by_cases h0 : n = 0
  · subst h0
    cases a with
    | none => exact Or.inl ⟨rfl, rfl, ha rfl, by simp⟩
    | some ad => exact Or.inr (Or.inl ⟨ad, rfl, rfl, hc', by simp⟩)
  · cases a with
    | none => have := ha rfl; omega
    | some x =>
      obtain ⟨b, off, rfl, hb⟩ := ints_at (zs := zs) (fun i hi => hcell x rfl i (by omega)) (by omega)
      refine Or.inr (Or.inr ⟨b, off, rfl, hn, hc', block_lt_of_cell (hb 0 (by omega)), fun j hj => ?_, ?_⟩)
      · rw [nt_take hj]
        simp at hj
        exact hb j (by omega)
      · rw [List.length_take]; omega
theorem open_arg (K : Nat) {H : Type} {enc : TypeId × Value → H} {W : World} {n : Nat} {v : Value} {y : DataW H × List MemPlace} (h : DataW.trod enc Try.prog W 0 (fun _ => true) true n 22 [v] = some y) :
    ∃ (a : Option Addr) (m c : Nat) (l : List Int), v = .slice a m c ∧ Arg K W a m c l := by
  rcases open_ints Try.underlying22 Try.underlying3 (by kernel_rfl) h with ⟨hcs, _⟩ | ⟨x, m, c, zs, hcs, _, hl, hm, hz, _, hcell, _⟩
  · have e : v = .slice none 0 0 := by simpa using hcs
    exact ⟨_, _, _, _, e, arg_of K (zs := []) rfl (Nat.le_refl _) (by unfold maxLen; omega) (fun _ => rfl) (fun a' h => by cases h)⟩
  · have e : v = .slice (some x) m c := by simpa using hcs
    simp only [if_true] at hz
    exact ⟨_, _, _, _, e, arg_of K hz hl hm (fun h => by cases h) (fun a' e j hj => by cases e; exact hcell j (by omega))⟩
end
theorem sl_run (K : Nat) (w : World) (a : Option Addr) (n c : Nat) (l : List Int) (h : Arg K w a n c l) : ∀ W : World, (Instr.sliceAt 22 (.slice a n c) none (some (.int .i64 (l.length : Int))) none).run Try.prog W = .ok (.slice a l.length c) W := fun W => by
  rcases h with ⟨rfl, rfl, rfl, rfl⟩ | ⟨ad, rfl, rfl, q2, rfl⟩ | ⟨b, o, rfl, q1, q2, q3, q4, q5⟩
  · go_simp
  · go_simp
  · have h1 : (l.length : Int) ≤ (c : Int) := by omega
    go_simp
theorem sl_run2 (K : Nat) (w : World) (a : Option Addr) (n c : Nat) (l : List Int) (h : Arg K w a n c l) : ∀ W : World, (Instr.slice 22 (.slice a n c) none (some (.int .i64 (l.length : Int))) none).run Try.prog W = .ok (.slice a l.length c) W := fun W => by
  rcases h with ⟨rfl, rfl, rfl, rfl⟩ | ⟨ad, rfl, rfl, q2, rfl⟩ | ⟨b, o, rfl, q1, q2, q3, q4, q5⟩
  · go_simp
  · go_simp
  · have h1 : (l.length : Int) ≤ (c : Int) := by omega
    go_simp
theorem own0 (w : World) : (w.alloc (.cells #[] 3)).ownsRow w.heap.size 3 1 (.slice (some ⟨w.heap.size, 0, none⟩) 0 0) 0 [] := World.ownsRow_lit w #[] 0 (Nat.le_refl _) (by decide) (by decide)
theorem own_form {w : World} {base : Nat} {e : TypeId} {v : Value} {n : Nat} {xs : List Value} (h : w.ownsRow base e 1 v n xs) (hne : ¬ v = .slice none 0 0) : ∃ g cap, v = .slice (some ⟨g, 0, none⟩) n cap := by
  rcases h.2 with ⟨h', _⟩ | ⟨g, cap, cur, hv, _⟩
  · exact absurd h' hne
  · exact ⟨g, cap, hv⟩
/-- where a list that is appended lies -/
def SrcA (X : World) (a : Option Addr) (c : Nat) (l : List Int) : Prop := (a = none ∧ c = 0 ∧ l = []) ∨ ∃ ad, a = some ad ∧ ∀ j u, (l.map (Value.int .i64))[j]? = some u → X.cell? (ad.add j) = some u
theorem app_run (B g0 : Nat) (l : List Int) (a : Option Addr) (c : Nat) (X : World) (hl : l.length ≤ 1000) (hown : X.ownsRow B 3 1 (.slice (some ⟨g0, 0, none⟩) 0 0) 0 []) (hB : B ≤ X.heap.size) (hs : SrcA X a c l) :
    ∃ g cap X', (Builtin.append_ #[22, 22] 22 #[.slice (some ⟨g0, 0, none⟩) 0 0, .slice a l.length c]).run Try.prog X = .ok (.slice (some ⟨g, 0, none⟩) l.length cap) X' ∧ X'.ownsRow B 3 1 (.slice (some ⟨g, 0, none⟩) l.length cap) l.length (l.map (Value.int .i64)) ∧ X.grownBy X' (some g0) ∧ (g = g0 ∨ X.heap.size ≤ g) := by
  obtain ⟨i0, hi, hz0, hz1, hz2⟩ := info_parts info3
  rcases hs with ⟨rfl, rfl, rfl⟩ | ⟨ad, rfl, hc⟩
  · refine ⟨g0, 0, X, ?_, hown, World.grownBy.refl X _, .inl rfl⟩
    simp [Builtin.append_, run_underlying Try.underlying22, sizeOf, typeInfo, zeroValue, hi, hz0, Builtin.lenOf, Question.forced, run_firstCells_none]
    simp [storeCells]
  · obtain ⟨v', w', hr, h2, h3, h4, h5⟩ := run_append_own_at (P := Try.prog) X B 22 22 3 i0 (.int .i64 0) 1 8 Try.underlying22 hi hz0 hz1 hz2 rfl (by decide) (.slice (some ⟨g0, 0, none⟩) 0 0) 0 [] hown ad l.length c (l.map (Value.int .i64)) (by simp) hc (by simp [Value.oneCell']) (by unfold maxLen; omega) (by omega) hB
    obtain ⟨g, cap, rfl⟩ := own_form h2 (fun e => by have := h4.1 e; simp at this)
    refine ⟨g, cap, w', by simpa using hr, by simpa using h2, h3, ?_⟩
    simp [Value.ownBlock] at h5
    omega
/-- behind an append -/
def AppK (B g0 : Nat) (l : List Int) (X : World) (K : Value → World → Prop) : Prop := ∀ g cap X', X'.ownsRow B 3 1 (.slice (some ⟨g, 0, none⟩) l.length cap) l.length (l.map (Value.int .i64)) → X.grownBy X' (some g0) → (g = g0 ∨ X.heap.size ≤ g) → K (.slice (some ⟨g, 0, none⟩) l.length cap) X'
theorem step_app {ops : Array Oper} {o : Oper} {A : Act} {X : World} {K : Act → World → Prop} {Q : Exit → Act → World → Prop} {E : Prop} (hgd : o.guard = none) (s x : Operand) (ho : o.op = .call { callee := .builtin .append, args := #[s, x], argTypes := #[22, 22] }) (hty : o.type = 22)
    (B g0 : Nat) (l : List Int) (a : Option Addr) (c : Nat) (he : A.eval s = .slice (some ⟨g0, 0, none⟩) 0 0) (hx : A.eval x = .slice a l.length c) (hl : l.length ≤ 1000) (hown : X.ownsRow B 3 1 (.slice (some ⟨g0, 0, none⟩) 0 0) 0 []) (hB : B ≤ X.heap.size) (hs : SrcA X a c l)
    (h : AppK B g0 l X fun v X' => K (A.put o.dst v) X') : if Region.wanted o (yielded ops A.tmps) = true then Oper.wp Try.prog o A X K Q else E := by
  have hw : Region.wanted o (yielded ops A.tmps) = true := by simp [Region.wanted, hgd]
  rw [if_pos hw]
  obtain ⟨g, cap, X', hr, h2, h3, h4⟩ := app_run B g0 l a c X hl hown hB hs
  unfold Oper.wp execOp
  simp only [ho, hty, resolve, invoke, builtin, Sem.run_bind, Sem.run_pure, Result.andThen_ok, List.map_toArray, List.map_cons, List.map_nil, he, hx, hr]
  exact h g cap X' h2 h3 h4
theorem add_at (b o j : Nat) : (⟨b, o, none⟩ : Addr).add j = ⟨b, o + j, none⟩ := by
  unfold Addr.add
  split <;> simp_all
theorem cells_src {X : World} {b o : Nat} {l : List Int} (hc : ∀ j, j < l.length → X.cell? ⟨b, o + j, none⟩ = some (.int .i64 (nt l j))) : ∀ j u, (l.map (Value.int .i64))[j]? = some u → X.cell? ((⟨b, o, none⟩ : Addr).add j) = some u := fun j u hj => by
  have hjl : j < l.length := by
    have := (List.getElem?_eq_some_iff.mp hj).1
    simpa using this
  have e : (l.map (Value.int .i64))[j]? = some (.int .i64 (nt l j)) := by
    rw [List.getElem?_map, List.getElem?_eq_getElem hjl, nt_get l j hjl]; rfl
  rw [e] at hj
  injection hj with hj
  subst hj
  rw [add_at]
  exact hc j hjl
theorem arg_srcA {K : Nat} {w : World} {a : Option Addr} {n c : Nat} {l : List Int} (h : Arg K w a n c l) (X : World) (hb : Below w.heap.size w X) : SrcA X a c l := by
  rcases h with ⟨rfl, rfl, rfl, rfl⟩ | ⟨ad, rfl, rfl, q2, rfl⟩ | ⟨b, o, rfl, q1, q2, q3, q4, q5⟩
  · exact .inl ⟨rfl, rfl, rfl⟩
  · exact .inr ⟨ad, rfl, fun j u hj => by simp at hj⟩
  · exact .inr ⟨_, rfl, cells_src fun j hj => (hb.cell (p := ⟨b, o + j, none⟩) q3).trans (q4 j hj)⟩
theorem ol_srcA {B : Nat} {a : Option Addr} {n c : Nat} {l : List Int} {w : World} (h : Ol B (.slice a n c) l w) (X : World) (hb : Below w.heap.size w X) : SrcA X a c l := by
  rcases h.2 with ⟨h1, h2⟩ | ⟨g, cap, cur, h1, h2, h3, h4, h5, h6, h7⟩
  · cases h1
    exact .inl ⟨rfl, rfl, List.length_eq_zero_iff.mp h2⟩
  · cases h1
    refine .inr ⟨_, rfl, cells_src fun j hj => ?_⟩
    rw [Nat.zero_add]
    exact (hb.cell (p := ⟨g, j, none⟩) (lt_hp h3)).trans (cell_take h3 h7 (by rw [List.getElem?_map, nt_at l j hj]; rfl))
theorem app_below {w w2 : World} (h : (w.alloc (.cells #[] 3)).grownBy w2 (some w.heap.size)) : Below w.heap.size w w2 :=
  (bl_al (Below.refl _ w) _).grown h (by simp) (fun j hj => by simp at hj; omega)
theorem undrew_g {X w2 : World} {r : Option Nat} (h : X.drew.grownBy w2 r) : X.grownBy w2 r := ⟨h.os, h.tape, h.output, h.size, h.block⟩
end Go.Proofs.Yteoionlnnjcggaa.kn
