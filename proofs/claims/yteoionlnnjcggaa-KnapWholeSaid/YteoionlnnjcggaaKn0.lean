/-
  knap: New.
-/
import Derived.Test.YteoionlnnjcggaaKg
import Derived.Test.YteoionlnnjcggaaKh
import Derived.Test.YteoionlnnjcggaaKz
import Derived.Test.YteoionlnnjcggaaOdRRat2
import Derived.Test.YteoionlnnjcggaaArFar2
namespace Go.Proofs.Yteoionlnnjcggaa.kn
open Go.RowKit
set_option linter.unusedVariables false
theorem step_app2 {ops : Array Oper} {o : Oper} {A : Act} {X : World} {K : Act → World → Prop} {Q : Exit → Act → World → Prop} {E : Prop} (hgd : o.guard = none) (s x : Operand) (ho : o.op = .call { callee := .builtin .append, args := #[s, x], argTypes := #[22, 22] }) (hty : o.type = 22)
    (B : Nat) (v : Value) (L : List Int) (m : Int) (g1 : Nat) (he : A.eval s = v) (hx : A.eval x = .slice (some ⟨g1, 0, none⟩) 1 1) (hl : L.length ≤ 900) (hown : Ol B v L X) (hB : B ≤ X.heap.size) (hc : X.cell? ⟨g1, 0, none⟩ = some (.int .i64 m))
    (h : ∀ v' X', Ol B v' (L ++ [m]) X' → Tw (vb v) X X' → (∀ i, i ∈ vb v' → i ∈ vb v ∨ X.heap.size ≤ i) → K (A.put o.dst v') X') : if Region.wanted o (yielded ops A.tmps) = true then Oper.wp Try.prog o A X K Q else E := by
  have hw : Region.wanted o (yielded ops A.tmps) = true := by simp [Region.wanted, hgd]
  rw [if_pos hw]
  obtain ⟨i0, hi, hz0, hz1, hz2⟩ := info_parts info3
  obtain ⟨v', w', hr, h2, h3, h4, h5⟩ := run_append_own_at (P := Try.prog) X B 22 22 3 i0 (.int .i64 0) 1 8 Try.underlying22 hi hz0 hz1 hz2 rfl (by decide) v L.length (L.map (Value.int .i64)) hown ⟨g1, 0, none⟩ 1 1 [.int .i64 m] (by simp) (fun j u hj => by
    cases j with
    | zero => simp at hj; subst hj; exact hc
    | succ j => simp at hj) (by simp [Value.oneCell']) (by unfold maxLen; omega) (by omega) hB
  unfold Oper.wp execOp
  simp only [ho, hty, resolve, invoke, builtin, Sem.run_bind, Sem.run_pure, Result.andThen_ok, List.map_toArray, List.map_cons, List.map_nil, he, hx, hr]
  refine h v' w' ?_ ⟨h3.os, h3.tape, h3.output, h3.size, fun b hb hn => h3.block b hb (fun e => hn ((vb_own v b).mpr e.symm))⟩ (fun i hi => ?_)
  · show w'.ownsRow B 3 1 v' (L ++ [m]).length ((L ++ [m]).map (Value.int .i64))
    rw [List.map_append, List.length_append]
    exact h2
  · have e := (vb_own v' i).mp hi
    rcases h5 with h5 | h5
    · rw [h5] at e; exact .inl ((vb_own v i).mpr e)
    · rw [h5] at e; injection e with e; right; omega
/-- what New has built so far -/
structure NS (w : World) (pi pk : Nat) (Bi : Array Value) (C : Int) (tv : Value) (T : List Int) (cw vw : Value) (Lw : List Int) (cv vv : Value) (Lv : List Int) (wr : World) : Prop where
  bi : wr.heap[pi]? = some (.cells Bi 25 (0, 0))
  kb : wr.heap[pk]? = some (.cells #[.int .i64 C, tv, cw, cv] 48 (0, 0))
  ot : Ol (pk + 1) tv T wr
  ow : Ol (pk + 1) vw Lw wr
  ov : Ol (pk + 1) vv Lv wr
  d1 : ∀ i, i ∈ vb tv → i ∉ vb vw
  d2 : ∀ i, i ∈ vb tv → i ∉ vb vv
  d3 : ∀ i, i ∈ vb vw → i ∉ vb vv
  bl : Below w.heap.size w wr
  le : w.heap.size ≤ pi ∧ pi < pk ∧ pk < wr.heap.size
theorem NS.up {w X X' : World} {pi pk : Nat} {Bi : Array Value} {C : Int} {tv cw vw cv vv : Value} {T Lw Lv : List Int} (h : NS w pi pk Bi C tv T cw vw Lw cv vv Lv X) (k : Below X.heap.size X X') : NS w pi pk Bi C tv T cw vw Lw cv vv Lv X' :=
  have t : Tw [] X X' := Tw.of k
  ⟨(k.block _ (lt_hp h.bi)).trans h.bi, (k.block _ (lt_hp h.kb)).trans h.kb, h.ot.keep t (by simp), h.ow.keep t (by simp), h.ov.keep t (by simp), h.d1, h.d2, h.d3, bl_tr h.bl k, ⟨h.le.1, h.le.2.1, Nat.lt_of_lt_of_le h.le.2.2 k.size⟩⟩
theorem NS.stW {w X : World} {pi pk : Nat} {Bi : Array Value} {C : Int} {tv cw vw cv vv : Value} {T Lw Lv : List Int} (h : NS w pi pk Bi C tv T cw vw Lw cv vv Lv X) : X.cell? ⟨pk, 2, none⟩ = some cw ∧ X.frozen? ⟨pk, 2, none⟩ = false :=
  ⟨(cell_of_row X pk 2 _ 48 _ h.kb).trans rfl, by simp [World.frozen?, h.kb]⟩
theorem NS.stV {w X : World} {pi pk : Nat} {Bi : Array Value} {C : Int} {tv cw vw cv vv : Value} {T Lw Lv : List Int} (h : NS w pi pk Bi C tv T cw vw Lw cv vv Lv X) : X.cell? ⟨pk, 3, none⟩ = some cv ∧ X.frozen? ⟨pk, 3, none⟩ = false :=
  ⟨(cell_of_row X pk 3 _ 48 _ h.kb).trans rfl, by simp [World.frozen?, h.kb]⟩
theorem NS.appW {w X X' : World} {pi pk : Nat} {Bi : Array Value} {C m : Int} {tv cw vw cv vv v' : Value} {T Lw Lv : List Int} (h : NS w pi pk Bi C tv T cw vw Lw cv vv Lv X) (ho : Ol (pk + 1) v' (Lw ++ [m]) X') (t : Tw (vb vw) X X') (hn : ∀ i, i ∈ vb v' → i ∈ vb vw ∨ X.heap.size ≤ i) : NS w pi pk Bi C tv T cw v' (Lw ++ [m]) cv vv Lv X' :=
  ⟨blk_tw h.bi t (h.ow.far h.bi (by decide)), blk_tw h.kb t (h.ow.far h.kb (by decide)), h.ot.keep t (fun i hi hm => h.d1 i hm hi), ho, h.ov.keep t (fun i hi => h.d3 i hi),
    fun i hi hm => by
      rcases hn i hm with g | g
      · exact h.d1 i hi g
      · have := lt_hp (h.ot.blk i hi).2.choose_spec; omega,
    h.d2, fun i hi hm => by
      rcases hn i hi with g | g
      · exact h.d3 i g hm
      · have := lt_hp (h.ov.blk i hm).2.choose_spec; omega,
    Tw.below h.bl t (fun i hi => by have := (h.ow.blk i hi).1; have := h.le; omega) h.bl.size, ⟨h.le.1, h.le.2.1, Nat.lt_of_lt_of_le h.le.2.2 t.size⟩⟩
theorem NS.setW {w X : World} {pi pk : Nat} {Bi : Array Value} {C : Int} {tv cw vw cv vv : Value} {T Lw Lv : List Int} (h : NS w pi pk Bi C tv T cw vw Lw cv vv Lv X) (v' : Value) : NS w pi pk Bi C tv T v' vw Lw cv vv Lv (X.setCell ⟨pk, 2, none⟩ v') :=
  have st := (Tw.refl [pk] X).st pk (.inl (by simp)) 2 v'
  have hf : ∀ v L, Ol (pk + 1) v L X → ∀ i, i ∈ [pk] → i ∉ vb v := fun v L h2 i hi hm => by simp at hi; subst hi; have := (h2.blk i hm).1; omega
  ⟨blk_tw h.bi st (by have := h.le; simp; omega), (blk_set h.kb 2 v').trans rfl, h.ot.keep st (hf _ _ h.ot), h.ow.keep st (hf _ _ h.ow), h.ov.keep st (hf _ _ h.ov), h.d1, h.d2, h.d3,
    Tw.below h.bl st (fun i hi => by simp at hi; have := h.le; omega) h.bl.size, ⟨h.le.1, h.le.2.1, Nat.lt_of_lt_of_le h.le.2.2 st.size⟩⟩
theorem NS.appV {w X X' : World} {pi pk : Nat} {Bi : Array Value} {C m : Int} {tv cw vw cv vv v' : Value} {T Lw Lv : List Int} (h : NS w pi pk Bi C tv T cw vw Lw cv vv Lv X) (ho : Ol (pk + 1) v' (Lv ++ [m]) X') (t : Tw (vb vv) X X') (hn : ∀ i, i ∈ vb v' → i ∈ vb vv ∨ X.heap.size ≤ i) : NS w pi pk Bi C tv T cw vw Lw cv v' (Lv ++ [m]) X' :=
  ⟨blk_tw h.bi t (h.ov.far h.bi (by decide)), blk_tw h.kb t (h.ov.far h.kb (by decide)), h.ot.keep t (fun i hi hm => h.d2 i hm hi), h.ow.keep t (fun i hi hm => h.d3 i hm hi), ho,
    h.d1, fun i hi hm => by
      rcases hn i hm with g | g
      · exact h.d2 i hi g
      · have := lt_hp (h.ot.blk i hi).2.choose_spec; omega,
    fun i hi hm => by
      rcases hn i hm with g | g
      · exact h.d3 i hi g
      · have := lt_hp (h.ow.blk i hi).2.choose_spec; omega,
    Tw.below h.bl t (fun i hi => by have := (h.ov.blk i hi).1; have := h.le; omega) h.bl.size, ⟨h.le.1, h.le.2.1, Nat.lt_of_lt_of_le h.le.2.2 t.size⟩⟩
theorem NS.setV {w X : World} {pi pk : Nat} {Bi : Array Value} {C : Int} {tv cw vw cv vv : Value} {T Lw Lv : List Int} (h : NS w pi pk Bi C tv T cw vw Lw cv vv Lv X) (v' : Value) : NS w pi pk Bi C tv T cw vw Lw v' vv Lv (X.setCell ⟨pk, 3, none⟩ v') :=
  have st := (Tw.refl [pk] X).st pk (.inl (by simp)) 3 v'
  have hf : ∀ v L, Ol (pk + 1) v L X → ∀ i, i ∈ [pk] → i ∉ vb v := fun v L h2 i hi hm => by simp at hi; subst hi; have := (h2.blk i hm).1; omega
  ⟨blk_tw h.bi st (by have := h.le; simp; omega), (blk_set h.kb 3 v').trans rfl, h.ot.keep st (hf _ _ h.ot), h.ow.keep st (hf _ _ h.ow), h.ov.keep st (hf _ _ h.ov), h.d1, h.d2, h.d3,
    Tw.below h.bl st (fun i hi => by simp at hi; have := h.le; omega) h.bl.size, ⟨h.le.1, h.le.2.1, Nat.lt_of_lt_of_le h.le.2.2 st.size⟩⟩
/-- a list in an order -/
def pick (L T : List Int) : List Int := T.map fun t => nt L t.toNat
theorem pick_len (L T : List Int) : (pick L T).length = T.length := by simp [pick]
theorem nt_pick (L T : List Int) (k : Nat) (h : k < T.length) : nt (pick L T) k = nt L (nt T k).toNat := by
  unfold pick nt
  rw [List.getElem?_map, List.getElem?_eq_getElem h]
  rfl
theorem pick_snoc (L T : List Int) (k : Nat) (h : k < T.length) : pick L (T.take (k + 1)) = pick L (T.take k) ++ [nt L (nt T k).toNat] := by
  unfold pick
  rw [List.take_add_one, nt_at T k h, List.map_append]
  rfl
end Go.Proofs.Yteoionlnnjcggaa.kn
