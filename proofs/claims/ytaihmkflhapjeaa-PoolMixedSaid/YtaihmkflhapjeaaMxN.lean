/-
  PoolMixed: the five lists at the end.
-/
import Derived.Test.YtaihmkflhapjeaaMxK
namespace Go.Proofs.Ytaihmkflhapjeaa
open Go.RowKit Go.MuLone
set_option linter.unusedVariables false
section
variable {A : Ad} {nv : Nat → Value} {nb : Nat → Int} {hd : Nat → Bool} {ow : Nat → Value} {l : List Int} {s b : Int} {own : Nat → List Nat} {st : List Nat} {loc : Nat → Loc} {ac ac2 : Nat → Option Xa} {B : Nat} {H : List Nat} {w w1 : World}
variable {q g cap qa qh : Nat} {hvv : Nat → Int} {hl : Nat → Value} {L : Nat → List Nat} {bx : Nat → Nat} {fr : Nat → Int}
def pick5 {T : Type} (a b c d e : T) : Nat → T
  | 0 => a
  | 1 => b
  | 2 => c
  | 3 => d
  | _ => e
theorem once_fin {z c0 c1 c2 c3 c4 : Nat} {x0 x1 x2 x3 x4 : Option Addr} (hp : Px A.n A.base l hd s own st loc ac) (hR : RHM q g A.n cap hvv w) (hr : ∀ m, m < A.n → (hvv m = -1 ↔ Free (loc m))) (h1 : 1 ≤ A.n) (h2 : A.n ≤ 30)
    (hz : w.heap[z]? = some (.cells #[.slice x0 (own 0).length c0, .slice x1 (own 1).length c1, .slice x2 (own 2).length c2, .slice x3 (own 3).length c3, .slice x4 st.length c4] 36 (0, 0)))
    (i0 : Ints w x0 (ints (own 0))) (i1 : Ints w x1 (ints (own 1))) (i2 : Ints w x2 (ints (own 2))) (i3 : Ints w x3 (ints (own 3))) (i4 : Ints w x4 (ints st)) :
    Calls Try.prog 24 #[.pointer (some ⟨q, 0, none⟩), .slice (some ⟨z, 0, none⟩) 5 5] w fun e w' => e = .returned (.bool true) ∧ Below w.heap.size w w' := by
  obtain ⟨f1, f2⟩ := hp.five
  have fm : ∀ m, m ∈ pres (fl own st) 5 → m < A.n := fun m hm => ((f2 m).mp hm).1
  have fn := nodup_lt A.n _ f1 fm
  refine once5 q g A.n cap z (fl own st) (pick5 x0 x1 x2 x3 x4) (pick5 c0 c1 c2 c3 c4) hvv h1 (by omega) (by omega) w hR (lt_hp hz) (fun k hk => ?_) (fun k hk => ?_) fm f1 (fun j hj => ?_)
  · refine (cell_of_row w z k _ 36 _ hz).trans ?_
    obtain rfl | rfl | rfl | rfl | rfl : k = 0 ∨ k = 1 ∨ k = 2 ∨ k = 3 ∨ k = 4 := by omega
    all_goals rfl
  · obtain rfl | rfl | rfl | rfl | rfl : k = 0 ∨ k = 1 ∨ k = 2 ∨ k = 3 ∨ k = 4 := by omega
    · exact i0
    · exact i1
    · exact i2
    · exact i3
    · exact i4
  · rw [hr j hj, f2]
    exact ⟨fun h => ⟨hj, h⟩, fun h => h.2⟩
end
theorem Lst.tw {v : Value} {C : Nat} {l : List Int} {w w1 : World} {S : List Nat} (h : Lst C v l w) (k : Tw S w w1) (hS : ∀ i, i ∈ S → i < C) : Lst C v l w1 := h.keep k (fun i hi => .inl (hS i hi))
theorem lst_ints {B n c : Nat} {x : Option Addr} {l : List Int} {w : World} (h : Lst B (.slice x n c) l w) : Ints w x l := by
  obtain ⟨a, c', e, hi⟩ := h.ints
  injection e with e1 e2 e3
  subst e1
  exact hi
end Go.Proofs.Ytaihmkflhapjeaa
