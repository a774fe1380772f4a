/-
  cert: what the laws do with a certificate that came in.
-/
import Derived.Test.YtjajpmbmkagcaaaDoorAp
namespace Go.Proofs.YtjajpmbmkagcaaaDoor
open Go.RowKit
set_option linter.unusedVariables false
theorem EB.put {c : Nat} {t : TypeId} {V : Int} {v : Value} {T : ByteArray} {w : World} (h : EB c V v T t w) (V' : Int) (v' : Value) (T' : ByteArray) : EB c V' v' T' t (((w.setCell ⟨c, 0, none⟩ (.int .i64 V')).setCell ⟨c, 1, none⟩ v').setCell ⟨c, 2, none⟩ (.string T')) :=
  (blk_set ((blk_set ((blk_set h 0 _).trans rfl) 1 _).trans rfl) 2 _).trans rfl
/-- a result that is a struct with a list of its own -/
def TmP (V : Int) (L : List Int) (T : ByteArray) (w : World) (e : Ending) (w' : World) : Prop := ∃ v, e = .returned (.agg #[.int .i64 V, v, .string T]) ∧ Ol w.heap.size v L w' ∧ Below w.heap.size w w'
set_option maxRecDepth 100000 in
set_option maxHeartbeats 8000000 in
theorem to_any {V : Int} {T : ByteArray} {L : List Int} {B : Nat} {v : Value} {w : World} (h : Ol B v L w) (hL : L.length ≤ 1000) : Calls Tryd.prog 8 #[.agg #[.int .i64 V, v, .string T]] w (TmP V L T w) := by
  obtain ⟨a, c, rfl⟩ := h.form
  have b1 := bl_al (Below.refl _ w) (.cells #[.int .i64 V, .slice a L.length c, .string T] 24)
  have b2 := bl_al b1 (.cells #[.int .i64 0, .slice none 0 0, .string ⟨#[]⟩] 26)
  have e1 := heap_alloc_new w (.cells #[.int .i64 V, .slice a L.length c, .string T] 24)
  have e2 := heap_alloc_new (w.alloc (.cells #[.int .i64 V, .slice a L.length c, .string T] 24)) (.cells #[.int .i64 0, .slice none 0 0, .string ⟨#[]⟩] 26)
  have e1' := (heap_alloc_old (w.alloc (.cells #[.int .i64 V, .slice a L.length c, .string T] 24)) (.cells #[.int .i64 0, .slice none 0 0, .string ⟨#[]⟩] 26) (lt_hp e1)).trans e1
  rw [World.size_alloc] at e2
  have SA := Lib.hid (fun X (hb : Below w.heap.size w X) => ol_srcA h X hb)
  have HB := Lib.hid b2
  have E1 := Lib.hid e1'
  have E2 := Lib.hid e2
  have c0 := EB.cells e1'
  clear h b1 b2 e1 e2 e1'
  go_enter Tryd.func8, Tryd.ntmps8
  go_upto_region 1 with fail
  generalize (w.alloc (.cells #[.int .i64 V, .slice a L.length c, .string T] 24)).alloc (.cells #[.int .i64 0, .slice none 0 0, .string ⟨#[]⟩] 26) = X at *
  have HZ := Lib.hid (lt_hp E2.out)
  have hz1 : w.heap.size + 1 < X.heap.size := HZ.out
  have FX := Lib.hid (fun Y (hb : Below X.heap.size X Y) => show (Y.cell? ⟨w.heap.size, 0, none⟩ = some (.int .i64 V) ∧ Y.cell? ⟨w.heap.size, 1, none⟩ = some (.slice a L.length c) ∧ Y.cell? ⟨w.heap.size, 2, none⟩ = some (.string T)) from
    EB.cells ((hb.block w.heap.size (by omega)).trans E1.out))
  have FZ := Lib.hid (fun Y (hb : Below X.heap.size X Y) => show (Y.frozen? ⟨w.heap.size + 1, 0, none⟩ = false ∧ Y.frozen? ⟨w.heap.size + 1, 1, none⟩ = false ∧ Y.frozen? ⟨w.heap.size + 1, 2, none⟩ = false) ∧ (Y.cell? ⟨w.heap.size + 1, 0, none⟩ = some (.int .i64 0) ∧ Y.cell? ⟨w.heap.size + 1, 1, none⟩ = some (.slice none 0 0) ∧ Y.cell? ⟨w.heap.size + 1, 2, none⟩ = some (.string ⟨#[]⟩)) from
    have e := (hb.block (w.heap.size + 1) hz1).trans E2.out
    ⟨⟨by simp [World.frozen?, e], by simp [World.frozen?, e], by simp [World.frozen?, e]⟩, EB.cells e⟩)
  have B1 := Lib.hid (show Below w.heap.size w (X.alloc (.cells #[] 3)).drew from bl_tr HB.out (bl_al (Below.refl _ X) (.cells #[] 3)).drew)
  have d1 := FX.out X.drew (bl_drew X)
  have d2 := FX.out (X.alloc (.cells #[] 3)).drew (bl_al (Below.refl _ X) (.cells #[] 3)).drew
  go_region_held3 (fun Y => Y.cell? ⟨w.heap.size, 0, none⟩ = some (.int .i64 V) ∧ Y.cell? ⟨w.heap.size, 1, none⟩ = some (.slice a L.length c) ∧ Y.cell? ⟨w.heap.size, 2, none⟩ = some (.string T)) (first | exact c0 | exact d1 | exact d2 | exact d3 | (refine ⟨?_, ?_, ?_⟩ <;> simp [go_sem, *]))
    (first
      | (refine step_app (by rfl) _ _ (by rfl) (by rfl) X.heap.size X.heap.size L a c (by rfl) (by rfl) (by omega) (own0 X).drew (by simp) (SA.out _ B1.out) ?_; intro g cap w2 ho2 hg2 hlt2; have hg3 := app_below (undrew_g hg2); have NL := Lib.hid (show Ol X.heap.size (.slice (some ⟨g, 0, none⟩) L.length cap) L w2 from ho2); have B3 := Lib.hid hg3; have d3 := FX.out w2 hg3; obtain ⟨⟨f0, f1, f2⟩, g0, g1, g2⟩ := FZ.out w2 hg3; clear ho2 hg2 hlt2 hg3)
      | fail)
  all_goals
    have C2 := Lib.hid (show EB (w.heap.size + 1) 0 (.slice none 0 0) ⟨#[]⟩ 26 w2 from (B3.out.block (w.heap.size + 1) hz1).trans E2.out)
    have st := (((Tw.refl [w.heap.size + 1] w2).st (w.heap.size + 1) (.inl (by simp)) 0 (.int .i64 V)).st (w.heap.size + 1) (.inl (by simp)) 1 (.slice (some ⟨g, 0, none⟩) L.length cap)).st (w.heap.size + 1) (.inl (by simp)) 2 (.string T)
    have C3 := Lib.hid (C2.out.put V (.slice (some ⟨g, 0, none⟩) L.length cap) T)
    have OF := Lib.hid ((NL.out.keep st (fun i hi => by simp at hi; subst hi; exact NL.out.far C2.out (by decide))).mono HB.out.size)
    have BF := Lib.hid (Tw.below (bl_tr HB.out B3.out) st (fun i hi => by simp at hi; omega) (by have := HB.out.size; have := B3.out.size; omega))
    clear st C2 d3 f0 f1 f2 g0 g1 g2 d1 d2 c0 FX FZ SA B1 NL B3
    go_wp2
    obtain ⟨d0, d1, d2⟩ := EB.cells C3.out
    refine bodyPost_ret (by simp [results, Tryd.results8, go_sem, d0, d1, d2]; rfl) rfl ?_
    exact ⟨_, rfl, OF.out, BF.out⟩
theorem step_appm {ops : Array Oper} {o : Oper} {A : Act} {X : World} {K : Act → World → Prop} {Q : Exit → Act → World → Prop} {E : Prop} (hgd : o.guard = none) (s x : Operand) (ho : o.op = .call { callee := .builtin .append, args := #[s, x], argTypes := #[22, 22] }) (hty : o.type = 22)
    (B g0 : Nat) (l : List Int) (m : Nat) (hm : l.length = m) (a : Option Addr) (c : Nat) (he : A.eval s = .slice (some ⟨g0, 0, none⟩) 0 0) (hx : A.eval x = .slice a m c) (hl : l.length ≤ 1000) (hown : X.ownsRow B 3 1 (.slice (some ⟨g0, 0, none⟩) 0 0) 0 []) (hB : B ≤ X.heap.size) (hs : SrcA X a c l)
    (h : AppK B g0 l X fun v X' => K (A.put o.dst v) X') : if Region.wanted o (yielded ops A.tmps) = true then Oper.wp Tryd.prog o A X K Q else E := by
  subst hm
  exact step_app hgd s x ho hty B g0 l a c he hx hl hown hB hs h
end Go.Proofs.YtjajpmbmkagcaaaDoor
