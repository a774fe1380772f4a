/-
  cert: the text of a certificate: read, it tells the certificate; a text that is read is one.
-/
import Derived.Test.YtjajpmbmkagcaaaDoorMb
namespace Go.Proofs.YtjajpmbmkagcaaaDoor
open Go.RowKit
set_option linter.unusedVariables false
/-- what stands ahead of an element -/
def sepb (j : Nat) : UInt8 := if j = 0 then 10 else 32
theorem sep_list (j : Nat) : (sep j).data.toList = [sepb j] := by
  unfold sep sepb
  split <;> rfl
/-- the elements, from the j-th on -/
def elT : Nat → List Int → List UInt8
  | _, [] => []
  | j, n :: r => sepb j :: (Lib.itoa n ++ elT (j + 1) r)
theorem elT_app : ∀ (l : List Int) (j : Nat) (m : List Int), elT j (l ++ m) = elT j l ++ elT (j + l.length) m
  | [], j, m => by simp [elT]
  | n :: r, j, m => by
    simp only [List.cons_append, elT, elT_app r (j + 1) m, List.length_cons, List.append_assoc]
    rw [show j + 1 + r.length = j + (r.length + 1) by omega]
theorem elT_snoc (l : List Int) (n : Int) : elT 0 (l ++ [n]) = elT 0 l ++ (sepb l.length :: Lib.itoa n) := by
  rw [elT_app]
  simp [elT]
/-- a certificate in form -/
structure Frm (V : Int) (L : List Int) (T : ByteArray) : Prop where
  v0 : 0 ≤ V
  v1 : V ≤ 1125899906842624
  l0 : 1 ≤ L.length
  l1 : L.length ≤ 64
  l2 : ∀ x, x ∈ L → 0 ≤ x ∧ x ≤ 999
  t0 : 1 ≤ T.size
  t1 : T.size ≤ 1048576
  t2 : ∀ j, j < T.size → ltr ((T.get! j).toNat : Int) = true
/-- what stands ahead of the tree -/
def hdT (V : Int) (L : List Int) : List UInt8 := qC.data.toList ++ (Lib.itoa V ++ (32 :: (Lib.itoa L.length ++ (elT 0 L ++ [10]))))
/-- the text -/
def txt (V : Int) (L : List Int) (T : ByteArray) : List UInt8 := hdT V L ++ (T.data.toList ++ [10])
theorem num_to {s : ByteArray} {a : Nat} {n most : Int} {b : UInt8} {r : List UInt8} (h : At s a (Lib.itoa n ++ b :: r)) (hb : ¬ (48 ≤ b.toNat ∧ b.toNat ≤ 57)) (h0 : 0 ≤ n) (hu : n ≤ most) (h18 : n ≤ 1125899906842624) :
    NumOk s a most ∧ nmv s a = n ∧ nmn s a = a + (Lib.itoa n).length := by
  obtain ⟨u, rfl⟩ : ∃ u : Nat, n = (u : Int) := ⟨n.toNat, by omega⟩
  exact num_at h hb hu (by omega)
theorem els_to {s : ByteArray} {a : Nat} (h3 : cr3 s = (a, 0)) (R : List UInt8) : ∀ (L : List Int), (∀ x, x ∈ L → 0 ≤ x ∧ x ≤ 999) → At s a (elT 0 L ++ 10 :: R) →
    ∀ j, j ≤ L.length → els s j = (a + (elT 0 (L.take j)).length, 0) ∧ elv s j = L.take j := by
  intro L hL hA j
  induction j with
  | zero => exact fun _ => ⟨by rw [List.take_zero]; exact h3, by rw [List.take_zero]; rfl⟩
  | succ j ih =>
    intro hj
    obtain ⟨e1, e2⟩ := ih (by omega)
    obtain ⟨n, hn⟩ : ∃ n, L[j]? = some n := ⟨L[j]'(by omega), List.getElem?_eq_getElem (by omega)⟩
    have et : L.take (j + 1) = L.take j ++ [n] := by rw [List.take_add_one, hn]; rfl
    have hd : L = L.take j ++ (n :: L.drop (j + 1)) := by
      have := List.take_append_drop (j + 1) L
      rw [et] at this
      simpa using this.symm
    have lj : (L.take j).length = j := by rw [List.length_take]; omega
    have hb := hL n (List.mem_of_getElem? hn)
    have hA' := hA
    rw [hd, elT_app, lj, Nat.zero_add, List.append_assoc] at hA'
    have hA2 := (At.app.1 hA').2
    simp only [elT, List.cons_append, List.append_assoc] at hA2
    have p := pas_at (s := s) (q := sep j) (a := a + (elT 0 (L.take j)).length) (by rw [sep_list]; exact (At.app (l := [sepb j]).1 hA2).1)
    rw [sep_size] at p
    have hA3 := (At.cons.1 hA2).2
    obtain ⟨b, r, hb1, hb2⟩ : ∃ b r, elT (j + 1) (L.drop (j + 1)) ++ 10 :: R = b :: r ∧ ¬ (48 ≤ b.toNat ∧ b.toNat ≤ 57) := by
      cases L.drop (j + 1) with
      | nil => exact ⟨10, R, rfl, by decide⟩
      | cons m t => exact ⟨sepb (j + 1), _, rfl, by unfold sepb; rw [if_neg (by omega)]; decide⟩
    rw [hb1] at hA3
    obtain ⟨ok, k1, k2⟩ := num_to hA3 hb2 hb.1 hb.2 (by omega)
    have e3 : els s (j + 1) = (nmn s (a + (elT 0 (L.take j)).length + 1), 0) := by
      show numS s 999 (pasS s (sep j) (els s j)) = _
      rw [e1, p, num_st0 ok]
    refine ⟨?_, ?_⟩
    · rw [e3, k2, et, elT_snoc, lj, List.length_append, List.length_cons]
      congr 1
      omega
    · show elv s j ++ [nmv s (pasS s (sep j) (els s j)).1] = _
      rw [e1, p, e2, et]
      show _ ++ [nmv s (a + (elT 0 (L.take j)).length + 1)] = _
      rw [k1]
/-- the state behind what stands ahead of the tree -/
theorem head_to {s : ByteArray} {V : Int} {L : List Int} (h : At s 0 (hdT V L)) (v0 : 0 ≤ V) (v1 : V ≤ 1125899906842624) (l0 : 1 ≤ L.length) (l1 : L.length ≤ 64) (l2 : ∀ x, x ∈ L → 0 ≤ x ∧ x ≤ 999) :
    cr5 s = ((hdT V L).length, 0) ∧ nmv s (cr0 s).1 = V ∧ crn s = L.length ∧ elv s (crn s) = L := by
  have H := h
  unfold hdT at H
  obtain ⟨p0, H⟩ := At.app.1 H
  have e0 : cr0 s = (5, 0) := pas_at p0
  have H : At s 5 (Lib.itoa V ++ 32 :: (Lib.itoa L.length ++ (elT 0 L ++ [10]))) := H
  obtain ⟨n1, n2, n3⟩ := num_to (most := 1125899906842624) H (by decide) v0 v1 v1
  have e1 : cr1 s = (5 + (Lib.itoa V).length, 0) := by
    show numS s _ (cr0 s) = _
    rw [e0, num_st0 n1, n3]
  have H2 := (At.app.1 H).2
  have e2 : cr2 s = (5 + (Lib.itoa V).length + 1, 0) := by
    show pasS s _ (cr1 s) = _
    rw [e1]
    exact pas_at (q := qS) (At.app (l := [32]).1 H2).1
  have H3 := (At.cons.1 H2).2
  obtain ⟨b, r, hb1, hb2⟩ : ∃ b r, elT 0 L ++ [10] = b :: r ∧ ¬ (48 ≤ b.toNat ∧ b.toNat ≤ 57) := by
    cases L with
    | nil => exact ⟨10, [], rfl, by decide⟩
    | cons m t => exact ⟨sepb 0, _, rfl, by decide⟩
  obtain ⟨m1, m2, m3⟩ := num_to (n := (L.length : Int)) (most := 64) (by rw [← hb1]; exact H3) hb2 (by omega) (by omega) (by omega)
  obtain ⟨c1, c2⟩ := cnt_st0 m1 (by rw [m2]; omega)
  have e3 : cr3 s = (5 + (Lib.itoa V).length + 1 + (Lib.itoa (L.length : Int)).length, 0) := by
    show cntS s (cr2 s) = _
    rw [e2, c1, m3]
  have en : crn s = L.length := by
    show cntV s (cr2 s) = _
    rw [e2]
    rw [m2] at c2
    omega
  have H4 := (At.app.1 H3).2
  obtain ⟨g1, g2⟩ := els_to e3 [] L l2 H4 L.length (Nat.le_refl _)
  rw [List.take_length] at g1 g2
  have H5 := (At.app.1 H4).2
  have e5 : cr5 s = ((hdT V L).length, 0) := by
    show pasS s qN (els s (crn s)) = _
    rw [en, g1, pas_at (q := qN) H5]
    unfold hdT
    simp only [List.length_append, List.length_cons, List.length_nil]
    congr 1
    show _ + 1 = 5 + _
    omega
  refine ⟨e5, by rw [e0]; exact n2, en, by rw [en]; exact g2⟩
theorem text_to {s : ByteArray} {V : Int} {L : List Int} {T : ByteArray} (F : Frm V L T) (h : s.data.toList = txt V L T) :
    crE s = (s.size, 0) ∧ nmv s (cr0 s).1 = V ∧ elv s (crn s) = L ∧ treV s (cr5 s) = T := by
  have hA := at_self s
  rw [h] at hA
  unfold txt at hA
  obtain ⟨A1, A2⟩ := At.app.1 hA
  obtain ⟨e5, ev, en, el⟩ := head_to A1 F.v0 F.v1 F.l0 F.l1 F.l2
  rw [Nat.zero_add] at A2
  obtain ⟨A3, A4⟩ := At.app.1 A2
  have tl : T.data.toList.length = T.size := by simp
  rw [tl] at A4
  obtain ⟨⟨A5, A6⟩, _⟩ := At.cons.1 A4
  have sz : s.size = (hdT V L).length + T.size + 1 := by
    have : s.data.toList.length = s.size := by simp
    rw [← this, h]
    unfold txt
    rw [List.length_append, List.length_append, tl]
    simp
    omega
  have tg : ∀ j, j < T.size → s.get! ((hdT V L).length + j) = T.get! j := fun j hj => by rw [A3.2 j (by omega), q_get T j hj]
  have ok : TreOk s (hdT V L).length T.size := ⟨F.t0, F.t1, A5, fun j hj => by rw [tg j hj]; exact F.t2 j hj, by rw [A6]; rfl⟩
  obtain ⟨t1, t2⟩ := tre_st0 ok
  have e6 : cr6 s = ((hdT V L).length + T.size, 0) := by
    show treS s (cr5 s) = _
    rw [e5, t1]
  have e7 : cr7 s = (s.size, 0) := by
    show pasS s qN (cr6 s) = _
    rw [e6, pas_at (q := qN) A4, sz]
    rfl
  refine ⟨?_, ev, el, ?_⟩
  · unfold crE
    rw [e7, if_neg (fun c => Nat.lt_irrefl _ c.2)]
  · rw [e5, t2]
    refine ByteArray.ext ?_
    refine Array.ext' ?_
    refine List.ext_getElem (by simp; omega) fun j h1 h2 => ?_
    have hj : j < T.size := by simpa using h2
    have g := tg j hj
    rw [get_of s _ (by omega), get_of T j hj] at g
    have g2 : (s.extract (hdT V L).length ((hdT V L).length + T.size))[j]'(by rw [ByteArray.size_extract]; omega) = T[j] := by
      rw [ByteArray.getElem_extract]; exact g
    exact g2
/-- a text that is read is its certificate's -/
theorem text_of {s : ByteArray} (h : (crE s).2 = 0) : Frm (nmv s (cr0 s).1) (elv s (crn s)) (treV s (cr5 s)) ∧ s.data.toList = txt (nmv s (cr0 s).1) (elv s (crn s)) (treV s (cr5 s)) := by
  have W := whole_of h
  obtain ⟨p0, e0⟩ := pas_ok (q := qC) (x := (0, 0)) W.h0 (Nat.zero_le _)
  have e0 : cr0 s = (5, 0) := e0
  obtain ⟨_, k1, e1⟩ := num_ok (x := cr0 s) W.h1
  have e1 : cr1 s = (nmn s (cr0 s).1, 0) := e1
  obtain ⟨k2, k3⟩ := k1.at_
  obtain ⟨p2, e2⟩ := pas_ok (q := qS) (x := cr1 s) W.h2 (cr1_le s)
  have e2 : cr2 s = ((cr1 s).1 + 1, 0) := e2
  obtain ⟨_, m1, m0, e3, ec⟩ := cnt_ok (x := cr2 s) W.h3
  have e3 : cr3 s = (nmn s (cr2 s).1, 0) := e3
  have ec : (crn s : Int) = nmv s (cr2 s).1 := ec
  obtain ⟨m2, m3⟩ := m1.at_
  have vb := nmv_bd (num_iff.2 k1)
  have nb := nmv_bd (num_iff.2 m1)
  have vl : ∀ j, (elv s j).length = j := by
    intro j
    induction j with
    | zero => rfl
    | succ j ih =>
      show (elv s j ++ [_]).length = _
      rw [List.length_append, ih]
      rfl
  have E : ∀ j, j ≤ crn s → At s (cr3 s).1 (elT 0 (elv s j)) ∧ els s j = ((cr3 s).1 + (elT 0 (elv s j)).length, 0) ∧ ∀ x, x ∈ elv s j → 0 ≤ x ∧ x ≤ 999 := by
    intro j
    induction j with
    | zero => exact fun _ => ⟨at_nil (cr3_le s), by show cr3 s = _; exact Prod.ext rfl W.h3, fun x hx => by cases hx⟩
    | succ j ih =>
      intro hj
      obtain ⟨i1, i2, i3⟩ := ih (by omega)
      obtain ⟨q1, q2⟩ := pas_ok (q := sep j) (x := els s j) (W.hp j (by omega)) (els_le s j)
      rw [sep_size] at q2
      rw [sep_list] at q1
      obtain ⟨_, r1, r2⟩ := num_ok (x := pasS s (sep j) (els s j)) (W.he (j + 1) hj)
      have r2 : els s (j + 1) = (nmn s (pasS s (sep j) (els s j)).1, 0) := r2
      have ev : elv s (j + 1) = elv s j ++ [nmv s (pasS s (sep j) (els s j)).1] := rfl
      obtain ⟨r3, r4⟩ := r1.at_
      have rb := nmv_bd (num_iff.2 r1)
      rw [q2] at r2 ev r3 r4 rb
      rw [i2] at r2 ev r3 r4 rb q1
      have r2 : els s (j + 1) = (nmn s ((cr3 s).1 + (elT 0 (elv s j)).length + 1), 0) := r2
      have ev : elv s (j + 1) = elv s j ++ [nmv s ((cr3 s).1 + (elT 0 (elv s j)).length + 1)] := ev
      have q1 : At s ((cr3 s).1 + (elT 0 (elv s j)).length) [sepb j] := q1
      have r3 : At s ((cr3 s).1 + (elT 0 (elv s j)).length + 1) (Lib.itoa (nmv s ((cr3 s).1 + (elT 0 (elv s j)).length + 1))) := r3
      have r4 : (Lib.itoa (nmv s ((cr3 s).1 + (elT 0 (elv s j)).length + 1))).length = nd (rest s ((cr3 s).1 + (elT 0 (elv s j)).length + 1)) := r4
      have rb : 0 ≤ nmv s ((cr3 s).1 + (elT 0 (elv s j)).length + 1) ∧ nmv s ((cr3 s).1 + (elT 0 (elv s j)).length + 1) ≤ 999 := rb
      generalize hn : nmv s ((cr3 s).1 + (elT 0 (elv s j)).length + 1) = n at *
      rw [ev, elT_snoc, vl j]
      refine ⟨At.app.2 ⟨i1, At.app (l := [sepb j]).2 ⟨q1, r3⟩⟩, ?_, fun x hx => ?_⟩
      · rw [r2]
        unfold nmn
        rw [List.length_append, List.length_cons, ← r4]
        congr 1
        omega
      · rcases List.mem_append.1 hx with hx | hx
        · exact i3 x hx
        · obtain rfl : x = n := by simpa using hx
          exact rb
  obtain ⟨i1, i2, i3⟩ := E (crn s) (Nat.le_refl _)
  obtain ⟨p5, e5⟩ := pas_ok (q := qN) (x := els s (crn s)) W.h5 (els_le s _)
  have e5 : cr5 s = ((els s (crn s)).1 + 1, 0) := e5
  obtain ⟨_, t1⟩ := tre_ok (x := cr5 s) W.h6
  have tn := tre_st0 t1
  have e5' : cr5 s = ((cr5 s).1, 0) := Prod.ext rfl W.h5
  rw [← e5'] at tn
  obtain ⟨e6, eT⟩ := tn
  have e6 : cr6 s = ((cr5 s).1 + lt s (cr5 s).1, 0) := e6
  have h7 : cr7 s = ((cr6 s).1 + 1, 0) := (pas_ok (q := qN) (x := cr6 s) (show (cr7 s).2 = 0 by rw [W.h7]) (cr6_le s)).2
  have p7 := (pas_ok (q := qN) (x := cr6 s) (show (cr7 s).2 = 0 by rw [W.h7]) (cr6_le s)).1
  rw [W.h7] at h7
  have h7 : s.size = (cr6 s).1 + 1 := congrArg Prod.fst h7
  rw [eT]
  have lts := t1.lts
  have ts : (s.extract (cr5 s).1 ((cr5 s).1 + lt s (cr5 s).1)).size = lt s (cr5 s).1 := by
    rw [ByteArray.size_extract]
    omega
  have tg : ∀ j, j < lt s (cr5 s).1 → (s.extract (cr5 s).1 ((cr5 s).1 + lt s (cr5 s).1)).get! j = s.get! ((cr5 s).1 + j) := fun j hj => by
    rw [get_of _ j (by omega), ByteArray.getElem_extract, get_of s _ (by omega)]
  have hA : At s 0 (txt (nmv s (cr0 s).1) (elv s (crn s)) (s.extract (cr5 s).1 ((cr5 s).1 + lt s (cr5 s).1))) := by
    unfold txt hdT
    simp only [List.append_assoc, List.cons_append]
    refine At.app.2 ⟨p0, ?_⟩
    show At s (0 + 5) _
    rw [Nat.zero_add]
    rw [e0] at k2 k3 e1
    have k2 : At s 5 (Lib.itoa (nmv s 5)) := k2
    have k3 : (Lib.itoa (nmv s 5)).length = nd (rest s 5) := k3
    have e1 : cr1 s = (5 + (Lib.itoa (nmv s 5)).length, 0) := by rw [e1, k3]; rfl
    rw [e0]
    refine At.app.2 ⟨k2, ?_⟩
    rw [e1] at p2 e2
    refine At.app (l := [32]).2 ⟨p2, ?_⟩
    show At s (5 + (Lib.itoa (nmv s 5)).length + 1) _
    rw [e2] at m2 m3 e3 ec
    have m2 : At s (5 + (Lib.itoa (nmv s 5)).length + 1) (Lib.itoa (nmv s (5 + (Lib.itoa (nmv s 5)).length + 1))) := m2
    have m3 : (Lib.itoa (nmv s (5 + (Lib.itoa (nmv s 5)).length + 1))).length = nd (rest s (5 + (Lib.itoa (nmv s 5)).length + 1)) := m3
    have ec : (crn s : Int) = nmv s (5 + (Lib.itoa (nmv s 5)).length + 1) := ec
    have e3 : (cr3 s).1 = 5 + (Lib.itoa (nmv s 5)).length + 1 + (Lib.itoa (nmv s (5 + (Lib.itoa (nmv s 5)).length + 1))).length := by rw [e3, m3]; rfl
    rw [vl, ec]
    refine At.app.2 ⟨m2, ?_⟩
    rw [← e3]
    refine At.app.2 ⟨i1, ?_⟩
    rw [i2] at p5 e5
    refine At.app (l := [10]).2 ⟨p5, ?_⟩
    have e5 : (cr5 s).1 = (cr3 s).1 + (elT 0 (elv s (crn s))).length + 1 := by rw [e5]
    show At s ((cr3 s).1 + (elT 0 (elv s (crn s))).length + 1) _
    rw [← e5]
    refine At.app.2 ⟨⟨by simp; omega, fun j hj => ?_⟩, ?_⟩
    · have hj' : j < lt s (cr5 s).1 := by simp at hj; omega
      rw [← q_get _ j (by omega), tg j hj']
    · rw [show (s.extract (cr5 s).1 ((cr5 s).1 + lt s (cr5 s).1)).data.toList.length = lt s (cr5 s).1 from by simp; omega]
      rw [e6] at p7
      exact p7
  refine ⟨⟨vb.1, vb.2, by rw [vl]; omega, by rw [vl]; omega, i3, by rw [ts]; exact t1.l1, by rw [ts]; exact t1.l2, fun j hj => ?_⟩, hA.eq ?_⟩
  · rw [ts] at hj
    rw [tg j hj]
    exact t1.ltr j hj
  · have e5 : (cr5 s).1 = (cr3 s).1 + (elT 0 (elv s (crn s))).length + 1 := by rw [e5, i2]
    have e1' : (cr1 s).1 = 5 + (Lib.itoa (nmv s 5)).length := by rw [e1, e0]; rw [e0] at k3; have k3 : (Lib.itoa (nmv s 5)).length = nd (rest s 5) := k3; rw [k3]; rfl
    have e3' : (cr3 s).1 = (cr2 s).1 + (Lib.itoa (nmv s (cr2 s).1)).length := by rw [m3]; rw [e3]; rfl
    have e2' : (cr2 s).1 = (cr1 s).1 + 1 := by rw [e2]
    have e6' : (cr6 s).1 = (cr5 s).1 + lt s (cr5 s).1 := by rw [e6]
    rw [e0]
    show s.size = (txt (nmv s 5) _ _).length
    have ll : ((elv s (crn s)).length : Int) = nmv s (cr2 s).1 := by rw [vl, ec]
    unfold txt hdT
    rw [ll]
    have q5 : qC.data.toList.length = 5 := rfl
    have tl : (s.extract (cr5 s).1 ((cr5 s).1 + lt s (cr5 s).1)).data.toList.length = lt s (cr5 s).1 := by simp; omega
    simp only [List.length_append, List.length_cons, List.length_nil, q5, tl]
    omega
end Go.Proofs.YtjajpmbmkagcaaaDoor
