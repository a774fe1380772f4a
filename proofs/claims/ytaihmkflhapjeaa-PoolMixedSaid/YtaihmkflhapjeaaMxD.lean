/-
  PoolMixed: behind an act that begins, the state at the loop's head again.
-/
import Derived.Test.YtaihmkflhapjeaaMxC
namespace Go.Proofs.Ytaihmkflhapjeaa
open Go.RowKit Go.MuLone
set_option linter.unusedVariables false
theorem Fr.bel {B : Nat} {H : List Nat} {w0 w w1 : World} (h : Fr B H w w1) (hb : Below B w0 w) (hB : B ≤ w.heap.size) : Below B w0 w1 := by
  obtain ⟨S, t, hS⟩ := h
  exact t.below hb (fun i hi => (hS i hi).1) hB
section
variable {A : Ad} {nv : Nat → Value} {nb : Nat → Int} {hd : Nat → Bool} {ow : Nat → Value} {l : List Int} {s b : Int} {own : Nat → List Nat} {st : List Nat} {loc : Nat → Loc} {ac : Nat → Option Xa} {B i : Nat} {H : List Nat} {w0 w w1 : World}
variable {q g cap qa qh : Nat} {hvv : Nat → Int} {hl : Nat → Value} {L : Nat → List Nat} {bx : Nat → Nat} {fr : Nat → Int}
theorem jt_take {v : Int} {c : Nat} (hM : Mx A nv nb hd ow l s own st loc (upf ac i (some ⟨c, false, 1, -1, 0, 0⟩)) B H w) (hL : Lv q g A.n cap qa qh B H hvv hl L bx fr ac w) (hR : Rl A.n hvv L loc) (hi : i < 4) (hx : ac i = none) (h0 : 0 ≤ v) (h1 : v ≤ 10000) (hs : s ≤ b) (hb : Below B w0 w) (hH : ∀ c, c ∈ H → B ≤ c) :
    Jt A q g cap qa qh B w0 b ((w.alloc (.cells #[.pointer (some ⟨c, 0, none⟩), .bool false, .int .i64 0, .int .i64 v] 52)).setCell ⟨qa, i, none⟩ (.pointer (some ⟨w.heap.size, 0, none⟩))) := by
  obtain ⟨m1, m2⟩ := mx_lay hM hL hi hx h0 h1
  have k : Tw [qa] w ((w.alloc (.cells #[.pointer (some ⟨c, 0, none⟩), .bool false, .int .i64 0, .int .i64 v] 52)).setCell ⟨qa, i, none⟩ (.pointer (some ⟨w.heap.size, 0, none⟩))) := ((Tw.refl [qa] w).al _).st qa (.inl (by simp)) i _
  refine ⟨_, _, _, _, _, _, _, _, _, _, _, _, _, _, _, _, m1, m2, hR, hs, k.below hb (fun j hj => ?_) hM.hB, fun c hc => ?_⟩
  · simp at hj; subst hj; exact hH _ hL.mem.2.2.1
  · rcases List.mem_cons.mp hc with e | e
    · subst e; exact hM.hB
    · exact hH c e
theorem jt_give {m c : Nat} (hM : Mx A nv nb hd ow l s own st loc (upf ac i (some ⟨c, true, 0, m, 0, 0⟩)) B H w) (hL : Lv q g A.n cap qa qh B H hvv hl L bx fr ac w) (hR : Rl A.n hvv L loc) (hi : i < 4) (hx : ac i = none) (hs : s ≤ b) (hb : Below B w0 w) (hH : ∀ c, c ∈ H → B ≤ c) :
    Jt A q g cap qa qh B w0 b ((w.alloc (.cells #[.pointer (some ⟨c, 0, none⟩), .bool true, .int .i64 (m : Int), .int .i64 0] 52)).setCell ⟨qa, i, none⟩ (.pointer (some ⟨w.heap.size, 0, none⟩))) := by
  obtain ⟨m1, m2⟩ := mx_lay hM hL hi hx (v := 0) (by omega) (by omega)
  have k : Tw [qa] w ((w.alloc (.cells #[.pointer (some ⟨c, 0, none⟩), .bool true, .int .i64 (m : Int), .int .i64 0] 52)).setCell ⟨qa, i, none⟩ (.pointer (some ⟨w.heap.size, 0, none⟩))) := ((Tw.refl [qa] w).al _).st qa (.inl (by simp)) i _
  refine ⟨_, _, _, _, _, _, _, _, _, _, _, _, _, _, _, _, m1, m2, hR, hs, k.below hb (fun j hj => ?_) hM.hB, fun c hc => ?_⟩
  · simp at hj; subst hj; exact hH _ hL.mem.2.2.1
  · rcases List.mem_cons.mp hc with e | e
    · subst e; exact hM.hB
    · exact hH c e
end
end Go.Proofs.Ytaihmkflhapjeaa
