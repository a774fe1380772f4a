/-
  knap: the reference's Check; the box of a problem, once its copy is put into it; knaps() is true.
-/
import Derived.Test.YteoionlnnjcggaaKw
import Derived.Test.YteoionlnnjcggaaRefC
import Derived.Test.YteoionlnnjcggaaRefK
namespace Go.Proofs.Yteoionlnnjcggaa.kn
open Go.RowKit
set_option linter.unusedVariables false
def Prob (W : World) (wl vl : List Int) (cl : List (List Int)) (wa va ca : Option Addr) : Prop := Ints W wa wl ∧ Ints W va vl ∧ Rws W ca cl ∧ wl.length ≤ 1000 ∧ vl.length ≤ 1000 ∧ cl.length ≤ 1000
theorem box6_keep {W W1 : World} {b : Nat} {v0 v1 v2 v3 v4 v5 : Value} (hb : Below W.heap.size W W1) (q : W.heap[b]? = some (.cells #[v0, v1, v2, v3, v4, v5] 25 (0, 0))) :
    W1.cell? ⟨b, 0, none⟩ = some v0 ∧ W1.cell? ⟨b, 1, none⟩ = some v1 ∧ W1.cell? ⟨b, 2, none⟩ = some v2 ∧ W1.cell? ⟨b, 3, none⟩ = some v3 ∧ W1.cell? ⟨b, 4, none⟩ = some v4 ∧ W1.cell? ⟨b, 5, none⟩ = some v5 := box6 ((hb.block _ (lt_hp q)).trans q)
theorem ref_any (K N C : Int) (wl vl : List Int) (cl : List (List Int)) (wa va ca : Option Addr) (wc vc cc : Nat) (w : World) (h : Prob w wl vl cl wa va ca) :
    Calls Try.prog 14 #[.agg #[.int .i64 K, .int .i64 N, .int .i64 C, .slice wa wl.length wc, .slice va vl.length vc, .slice ca cl.length cc]] w
      fun e w' => e = .returned (.int .i64 (chk K N C wl vl cl)) ∧ Below w.heap.size w w' := by
  obtain ⟨hw, hv, hr, l1, l2, l3⟩ := h
  by_cases hK : K < 1 ∨ 3 < K
  · rw [chk_kind hK]; exact refk_none K N C hK _ _ _ _ _ _ _ _ _ w
  · by_cases h1 : N < 1
    · rw [chk_arg hK h1]; exact refk_arg K N C (by omega) (by omega) h1 _ _ _ _ _ _ _ _ _ w
    · by_cases h2 : (K = 1 ∧ 64 < N) ∨ (K ≠ 1 ∧ 24 < N)
      · rw [chk_big hK h1 h2]; exact refk_big K N C (by omega) (by omega) h1 h2 _ _ _ _ _ _ _ _ _ w
      · by_cases h3 : formP K N C wl.length vl.length cl
        · by_cases h4 : K = 1
          · rw [chk_items hK h1 h2 h3 h4]
            obtain ⟨f1, f2, f3⟩ := form_items h3 h4
            subst h4
            rw [f3, ← f1]
            exact refk_items C wl vl wa va ca wc vc cc w hw hv (by omega) (by omega) (by omega)
          · rw [chk_costs hK h1 h2 h3 h4]
            obtain ⟨f1, f2, f3, f4, f5⟩ := form_costs h3 h4
            subst f2
            rw [f3, f4, ← f1]
            exact refc_costs K (by omega) (by omega) cl f5 (by omega) (by omega) wa va ca wc vc cc w hr
        · rw [chk_form hK h1 h2 h3]
          by_cases h4 : K = 1
          · subst h4
            exact refk_form N C h1 (by omega) _ _ _ (fun h => h3 (by unfold formP; exact Or.inl ⟨rfl, h.1, h.2.1, h.2.2⟩)) _ _ _ _ _ _ w
          · by_cases h5 : (cl.length : Int) = N ∧ C = 0 ∧ wl.length = 0 ∧ vl.length = 0
            · obtain ⟨f1, f2, f3, f4⟩ := h5
              have hbad : ¬ rowsP cl := fun h => h3 (by unfold formP; exact Or.inr ⟨h4, f1, f2, f3, f4, h⟩)
              subst f2
              rw [f3, f4, ← f1]
              exact refc_rows K (by omega) (by omega) cl hbad (by omega) (by omega) wa va ca wc vc cc w hr
            · exact refc_form K N C (by omega) (by omega) h1 (by omega) _ _ _ h5 _ _ _ _ _ _ w
/-- the box of a problem, once its copy is put into it -/
theorem put_copy {w w1 : World} {b g1 g2 k1 k2 cc : Nat} {ca : Option Addr} {K N C : Int} {wl vl : List Int} {cl : List (List Int)} {B : Nat} {v0 v1 v2 v3 v4 v5 : Value}
    (hw : w.heap.size ≤ b) (q : w1.heap[b]? = some (.cells #[v0, v1, v2, v3, v4, v5] 25 (0, 0))) (hb : Below w.heap.size w w1) (i1 : IntsO w1 g1 wl) (i2 : IntsO w1 g2 vl) (rw : RwsO B w1 ca cl) (l1 : wl.length ≤ 1000) (l2 : vl.length ≤ 1000) (l3 : cl.length ≤ 1000)
    (X : World) (hX : X = (((((w1.setCell ⟨b, 0, none⟩ (.int .i64 K)).setCell ⟨b, 1, none⟩ (.int .i64 N)).setCell ⟨b, 2, none⟩ (.int .i64 C)).setCell ⟨b, 3, none⟩ (.slice (some ⟨g1, 0, none⟩) wl.length k1)).setCell ⟨b, 4, none⟩ (.slice (some ⟨g2, 0, none⟩) vl.length k2)).setCell ⟨b, 5, none⟩ (.slice ca cl.length cc)) :
    X.heap[b]? = some (.cells #[.int .i64 K, .int .i64 N, .int .i64 C, .slice (some ⟨g1, 0, none⟩) wl.length k1, .slice (some ⟨g2, 0, none⟩) vl.length k2, .slice ca cl.length cc] 25 (0, 0)) ∧ Prob X wl vl cl (some ⟨g1, 0, none⟩) (some ⟨g2, 0, none⟩) ca ∧ Below w.heap.size w X := by
  subst hX
  have XO : ∀ k, k ≠ b → _ = _ := fun k hk => six_other (w := w1) hk (.int .i64 K) (.int .i64 N) (.int .i64 C) (.slice (some ⟨g1, 0, none⟩) wl.length k1) (.slice (some ⟨g2, 0, none⟩) vl.length k2) (.slice ca cl.length cc)
  exact ⟨six q _ _ _ _ _ _, ⟨(i1.same (XO _ (i1.ne q (by decide)))).ints, (i2.same (XO _ (i2.ne q (by decide)))).ints, (rw.other q XO).rws, l1, l2, l3⟩, six_below hb hw _ _ _ _ _ _⟩

theorem frm0 : chk 1 2 4 [2, 3] [4, 3] [] = 0 := by
  rw [chk_items (by omega) (by omega) (by omega) (by unfold formP; exact .inl ⟨rfl, rfl, rfl, rfl⟩) rfl]
  decide +kernel
theorem ordd0 {T : List Int} (h : Ordd [2, 3] [4, 3] T) : T = [0, 1] := by
  have r0 : od.rko (od.ltR [4, 3] [2, 3]) 2 0 = 0 := by decide +kernel
  have r1 : od.rko (od.ltR [4, 3] [2, 3]) 2 1 = 1 := by decide +kernel
  have l : T.length = 2 := h.is_.1
  have a0 := h.is_.2 0 (by decide)
  have a1 := h.is_.2 1 (by decide)
  have a0 : od.nth T 0 = 0 := by rw [show od.rko (od.ltR [4, 3] [2, 3]) ([2, 3] : List Int).length 0 = 0 from r0] at a0; exact a0
  have a1 : od.nth T 1 = 1 := by rw [show od.rko (od.ltR [4, 3] [2, 3]) ([2, 3] : List Int).length 1 = 1 from r1] at a1; exact a1
  rw [nt_od] at a0 a1
  match T, l with
  | [x, y], _ =>
    have e0 : x = 0 := a0
    have e1 : y = 1 := a1
    rw [e0, e1]
set_option maxHeartbeats 8000000 in
theorem knaps_any (w : World) : Calls Try.prog 15 #[] w fun e w' => e = .returned (.bool true) ∧ Below w.heap.size w w' := by
  have A1 := heap_alloc_new w (.cells #[.int .i64 2, .int .i64 3] 3)
  have A2 := heap_alloc_new (w.alloc (.cells #[.int .i64 2, .int .i64 3] 3)) (.cells #[.int .i64 4, .int .i64 3] 3)
  have B1 := bl_al (Below.refl _ w) (.cells #[.int .i64 2, .int .i64 3] 3)
  have B2 := bl_al B1 (.cells #[.int .i64 4, .int .i64 3] 3)
  have A1' := (heap_alloc_old (w.alloc (.cells #[.int .i64 2, .int .i64 3] 3)) (.cells #[.int .i64 4, .int .i64 3] 3) (lt_hp A1)).trans A1
  rw [World.size_alloc] at A2
  have I1 : Ints ((w.alloc (.cells #[.int .i64 2, .int .i64 3] 3)).alloc (.cells #[.int .i64 4, .int .i64 3] 3)) (some ⟨w.heap.size, 0, none⟩) [2, 3] := fun j hj => by
    refine ⟨w.heap.size, 0, rfl, lt_hp A1', ?_⟩
    rw [Nat.zero_add]
    rcases j with _ | _ | j
    · exact (cell_of_row _ _ 0 _ 3 _ A1').trans rfl
    · exact (cell_of_row _ _ 1 _ 3 _ A1').trans rfl
    · exact absurd hj (by simp)
  have I2 : Ints ((w.alloc (.cells #[.int .i64 2, .int .i64 3] 3)).alloc (.cells #[.int .i64 4, .int .i64 3] 3)) (some ⟨w.heap.size + 1, 0, none⟩) [4, 3] := fun j hj => by
    refine ⟨w.heap.size + 1, 0, rfl, lt_hp A2, ?_⟩
    rw [Nat.zero_add]
    rcases j with _ | _ | j
    · exact (cell_of_row _ _ 0 _ 3 _ A2).trans rfl
    · exact (cell_of_row _ _ 1 _ 3 _ A2).trans rfl
    · exact absurd hj (by simp)
  have NW := new_any 1 2 4 [2, 3] [4, 3] [] (some ⟨w.heap.size, 0, none⟩) (some ⟨w.heap.size + 1, 0, none⟩) none 2 2 0 _ I1 I2 (fun j hj => by simp at hj) (by decide) (by decide) (by decide)
  rw [frm0] at NW
  have NW2 := Lib.hid (show Calls Try.prog 9 #[.agg #[.int .i64 1, .int .i64 2, .int .i64 4, .slice (some ⟨w.heap.size, 0, none⟩) 2 2, .slice (some ⟨w.heap.size + 1, 0, none⟩) 2 2, .slice none 0 0]] ((w.alloc (.cells #[.int .i64 2, .int .i64 3] 3)).alloc (.cells #[.int .i64 4, .int .i64 3] 3)) (NkP 4 [2, 3] [4, 3] ((w.alloc (.cells #[.int .i64 2, .int .i64 3] 3)).alloc (.cells #[.int .i64 4, .int .i64 3] 3))) from NW.mono fun e w' q => by
    rcases q with ⟨q, _⟩ | ⟨_, q, _⟩ | ⟨_, _, q⟩
    · exact absurd rfl q
    · exact absurd rfl q
    · exact q)
  have HB := Lib.hid B2
  clear A1 A2 B1 B2 A1' I1 I2 NW
  go_enter Try.func15, Try.ntmps15
  go_wp2_with fail
  generalize (w.alloc (.cells #[.int .i64 2, .int .i64 3] 3)).alloc (.cells #[.int .i64 4, .int .i64 3] 3) = X at *
  refine NW2.out.mono ?_; rintro e w2 ⟨p, T, rfl, hk, ho, hb⟩
  obtain rfl := ordd0 ho
  have KN := Lib.hid (show Kn p 4 [0, 1] [2, 3] [4, 3] w2 from hk)
  have HB2 := Lib.hid (bl_tr HB.out hb)
  have OK : KnOk 4 [0, 1] [2, 3] [4, 3] := ho.ok (C := 4) (by decide) (by decide) rfl (by decide) (by decide) (fun j hj => by
    rcases j with _ | _ | j
    · exact ⟨⟨by decide, by decide⟩, by decide, by decide⟩
    · exact ⟨⟨by decide, by decide⟩, by decide, by decide⟩
    · exact absurd hj (by simp))
  replace OK := Lib.hid OK
  clear hk ho hb NW2 HB
  have L0 : LeftOk 4 [2, 3] [] := ⟨by decide, fun j hj => absurd hj (by simp), by decide⟩
  have BD := Lib.hid (show ∀ W, Below w2.heap.size w2 W → Calls Try.prog 12 #[.pointer (some ⟨p, 0, none⟩), .slice none 0 0] W fun e w' => e = .returned (.tuple #[.int .i64 1, .int .i64 0]) ∧ Below W.heap.size W w' from fun W hW => (bound_any OK.out (KN.out.up hW) (show Ls (.slice none 0 0) [] W from .inl ⟨_, _, rfl, rfl⟩) (by decide)).mono fun e w' q => ⟨by
    have e2 : bdv 4 [0, 1] [2, 3] [4, 3] [] = 1 := by decide +kernel
    have := q.1 L0
    rw [e2] at this
    exact this, q.2.2⟩)
  clear L0
  go_wp2_with fail
  refine (BD.out w2 (Below.refl _ _)).mono ?_; rintro e w3 ⟨rfl, hb3⟩
  have KN3 := Lib.hid (KN.out.up hb3)
  have HB3 := Lib.hid (bl_tr HB2.out hb3)
  have AL := heap_alloc_new w3 (.cells #[.int .i64 1] 3)
  have BA := bl_al (Below.refl _ w3) (.cells #[.int .i64 1] 3)
  have L1 : LeftOk 4 [2, 3] [1] := ⟨by decide, fun j hj => by (have h0 : j = 0 := (by simpa using hj)); subst h0; exact .inr rfl, by decide⟩
  have KD := Lib.hid (kids_any OK.out (KN3.out.up BA) (show Ls (.slice (some ⟨w3.heap.size, 0, none⟩) 1 1) [1] (w3.alloc (.cells #[.int .i64 1] 3)) from (ol_one w3 1).ls) (by decide))
  have HL1 := Lib.hid L1
  have HBA := Lib.hid (bl_tr HB3.out BA)
  clear hb3 AL BA L1 BD HB3 KN3 HB2 KN
  go_wp2_with fail
  generalize w3.alloc (.cells #[.int .i64 1] 3) = X3 at *
  refine KD.out.mono ?_; rintro e w4 ⟨l, er, kv, v, rfl, ol, hb4⟩
  obtain ⟨rfl, rfl⟩ := kv.big HL1.out (by decide) (by decide)
  obtain ⟨va, vc, rfl⟩ := ol.form
  obtain ⟨g, o, rfl, m1⟩ := ol.ls.at_ 0 (by decide)
  have m1 : w4.cell? ⟨g, o, none⟩ = some (.int .i64 0) := m1
  have HB4 := Lib.hid (bl_tr HBA.out hb4)
  clear kv ol hb4 KD HL1 HBA OK
  go_wp2
  go_ret
  exact ⟨rfl, HB4.out⟩
end Go.Proofs.Yteoionlnnjcggaa.kn
