/-
  LogJoins: appends of the reference's records; Join of nothing; the walk.
-/
import Derived.Test.YtgldgilhegdpjaaSoV
import Derived.Test.YtgldgilhegdpjaaLgD
namespace Go.Proofs.Ytgldgilhegdpjaa.so
open Go.RowKit
set_option linter.unusedVariables false
/-- an append of a list of records, nil or not, to an own one -/
theorem app45_run (B C : Nat) (v x : Value) (n m : Nat) (xs ys : List Value) (X : World) (hv : X.ownsRow B 45 2 v n xs) (hx : X.ownsRow C 45 2 x m ys) (h1 : ∀ u ∈ ys, u.oneCell' = true) (hn : n + m ≤ 1000) (hB : B ≤ X.heap.size) :
    ∃ v' X', (Builtin.append_ #[22, 22] 22 #[v, x]).run Try.prog X = .ok v' X' ∧ X'.ownsRow B 45 2 v' (n + m) (xs ++ ys) ∧ X.grownBy X' v.ownBlock := by
  obtain ⟨i0, hi, hz0, hz1, hz2⟩ := info_parts info45
  rcases hx.2 with ⟨rfl, rfl⟩ | ⟨g, cap, cur, rfl, hg⟩
  · obtain rfl : ys = [] := List.length_eq_zero_iff.mp (by have := hx.1; omega)
    refine ⟨v, X, ?_, by simpa using hv, World.grownBy.refl X _⟩
    rcases hv.2 with ⟨rfl, rfl⟩ | ⟨g, cap, cur, rfl, hg⟩
    · simp [Builtin.append_, run_underlying Try.underlying22, sizeOf, typeInfo, zeroValue, hi, hz0, Builtin.lenOf, Question.forced, run_firstCells_none]
    · have hle : n ≤ cap := hg.2.2.1
      simp [Builtin.append_, run_underlying Try.underlying22, sizeOf, typeInfo, zeroValue, hi, hz0, Builtin.lenOf, Question.forced, run_firstCells_none, hle]
      try simp [storeCells]
  · obtain ⟨v', w', hr, h2, h3, h4, h5⟩ := run_append_own_at (P := Try.prog) X B 22 22 45 i0 (.agg #[.int .i64 0, .slice none 0 0]) 2 32 Try.underlying22 hi hz0 hz1 hz2 rfl (by decide) v n xs hv ⟨g, 0, none⟩ m cap ys hx.1 (hx.cells rfl) h1 (by unfold maxLen; omega) (by omega) hB
    exact ⟨v', w', hr, h2, h3⟩
/-- behind an append -/
def App45 (B n m : Nat) (v : Value) (xs ys : List Value) (X : World) (K : Value → World → Prop) : Prop := ∀ v' X', X'.ownsRow B 45 2 v' (n + m) (xs ++ ys) → X.grownBy X' v.ownBlock → K v' X'
theorem wpList_app45 {ops : Array Oper} {rest : List Oper} {o : Oper} {A : Act} {X : World} {Q : Exit → Act → World → Prop} (hgd : o.guard = none) (s x : Operand) (ho : o.op = .call { callee := .builtin .append, args := #[s, x], argTypes := #[22, 22] }) (hty : o.type = 22)
    (B C : Nat) (v y : Value) (n m : Nat) (xs ys : List Value) (he : A.eval s = v) (hx : A.eval x = y) (hv : X.ownsRow B 45 2 v n xs) (hy : X.ownsRow C 45 2 y m ys) (h1 : ∀ u ∈ ys, u.oneCell' = true) (hn : n + m ≤ 1000) (hB : B ≤ X.heap.size)
    (h : App45 B n m v xs ys X fun v' X' => wpList Try.prog ops Q rest (A.put o.dst v') X') : wpList Try.prog ops Q (o :: rest) A X :=
  wpList_plain hgd fun _ hK => by
    obtain ⟨v', X', hr, h2, h3⟩ := app45_run B C v y n m xs ys X hv hy h1 hn hB
    unfold Oper.wp execOp
    simp only [ho, hty, resolve, invoke, builtin, Sem.run_bind, Sem.run_pure, Result.andThen_ok, List.map_toArray, List.map_cons, List.map_nil, he, hx, hr]
    exact hK _ _ (h v' X' h2 h3)
theorem join_nil (w : World) : Calls Try.prog 16 #[.slice none 0 0] w fun e w' => e = .returned (.slice none 0 0) ∧ Below w.heap.size w w' := by
  have SN := Lib.hid sort_nil
  go_enter Try.func16, Try.ntmps16
  go_wp2
  go_loopw [3, 8] (fun o i wr => o = .slice none 0 0 ∧ i = .int .i64 0 ∧ wr = w) (fun _ i _ => 0)
  case atStart => exact ⟨rfl, rfl, rfl⟩
  case round =>
    obtain ⟨rfl, rfl, rfl⟩ := hrel
    go_wp2_with fail
    refine (SN.out _).mono ?_; rintro e w3 ⟨rfl, hb3⟩
    have B3 := Lib.hid hb3
    clear hb3 SN
    go_wp2
    go_ret
    exact ⟨rfl, B3.out⟩
/-- the records of a law's three logs -/
def Rof (a b c : List Rec) : Nat → List Rec
  | 0 => a
  | 1 => b
  | 2 => []
  | _ => c
theorem cat_of (a b c : List Rec) : cat (Rof a b c) 4 = a ++ b ++ c := by simp [cat, Rof]
theorem fillS_log {w w1 : World} {rs : List Rec} {wv : Value} (h : FillS w rs rs.length wv w1) (h40 : rs.length ≤ 40) : LogAt w1 (.pointer (some ⟨w.heap.size, 0, none⟩)) rs ∧ (∃ ks C B, w1.ownsRow B 45 2 wv ks.length (enc ks) ∧ Ps C ks rs w1 ∧ ks.length = rs.length) ∧ Below w.heap.size w w1 ∧ ∃ u, w1.heap[w.heap.size]? = some (.cells #[u] 43 (0, 0)) ∧ ∃ a c, u = .slice a rs.length c := by
  obtain ⟨v, ks, wks, hq, ho, hp, hwo, hwp, hb⟩ := h
  rw [List.take_length] at hp hwp
  refine ⟨.inr ⟨_, ks, v, _, _, rfl, hq, ho, hp, h40⟩, ⟨wks, _, _, hwo, hwp, hwp.1⟩, hb, v, hq, ?_⟩
  have := row_sl ho
  rw [hp.1] at this
  exact this
end Go.Proofs.Ytgldgilhegdpjaa.so
