/-
  Both memories answer alike, whatever the job.
-/
import Derived.Test.YtdeggnefbkcegaaDo
import Derived.Test.YtdeggnefbkcegaaDo2
namespace Go.Proofs.Ytdeggnefbkcegaa
open Go.RowKit Go.MuLone
set_option linter.unusedVariables false
def I64s (l : List Int) : Prop := ∀ j, I64 (nth l j)
theorem I64s.set {l : List Int} (h : I64s l) (ix : Nat) (v : Int) (hv : I64 v) : I64s (l.set ix v) := fun j => by
  by_cases hx : ix < l.length
  · rw [nth_set _ _ _ _ hx]
    split
    · exact hv
    · exact h j
  · rw [List.set_eq_of_length_le (by omega)]; exact h j
/-- a job is answered so, and leaves that -/
structure Out (l : List Int) (s k c o n : Int) (d : Bool) (kd i a bb : Int) (r1 : Int) (r2 : Bool) (r3 : Int) (l' : List Int) (s' k' c' o' n' : Int) (d' : Bool) : Prop where
  own : ∀ g b wh w, MB 0 g b l s k c o n d w → Calls Try.prog 18 #[.pointer (some ⟨g, 0, none⟩), .agg #[.int .i64 wh, .int .i64 i, .int .i64 a, .int .i64 bb], .int .i64 kd] w (Did (.tuple #[.int .i64 r1, .bool r2, .int .i64 r3]) g b l' s' k' c' o' n' d' w)
  ref : ∀ g b w, RB g b l s k c o n d w → Calls Try.prog 19 #[.pointer (some ⟨g, 0, none⟩), .int .i64 kd, .int .i64 i, .int .i64 a, .int .i64 bb] w (RDid (.tuple #[.int .i64 r1, .bool r2, .int .i64 r3]) g b l' s' k' c' o' n' d' w)
  len : l'.length = l.length
  lo : 0 ≤ s'
  hi : s' ≤ s + 1
  fit : I64s l'
theorem out_ex (l : List Int) (s k c o n : Int) (d : Bool) (kd i a bb : Int) (hk : kd = 1 ∨ kd = 2 ∨ kd = 3 ∨ kd = 4) (hl : I64s l) (ha : I64 a) (hb : I64 bb) (s0 : 0 ≤ s) (s1 : s ≤ 1000000) :
    ∃ r1 r2 r3 l' s' k' c' o' n' d', Out l s k c o n d kd i a bb r1 r2 r3 l' s' k' c' o' n' d' := by
  by_cases hi : i < 0 ∨ (l.length : Int) ≤ i
  · refine ⟨0, false, 11, l, s, k, c, o, n, d, ⟨fun g b wh w h => ?_, fun g b w h => rdo_miss g b l s k c o n d kd i a bb hi w h, rfl, s0, by omega, hl⟩⟩
    rcases hk with rfl | rfl | rfl | rfl
    · exact do_miss1 g b l s k c o n d i hi wh a bb w h
    · exact do_miss2 g b l s k c o n d i hi wh a bb w h
    · exact do_miss3 g b l s k c o n d i hi wh a bb w h
    · exact do_miss4 g b l s k c o n d i hi wh a bb w h
  · obtain ⟨ix, hix⟩ : ∃ ix : Nat, i = ix := ⟨i.toNat, by omega⟩
    have hx : ix < l.length := by omega
    have hX := hl ix
    rcases hk with rfl | rfl | rfl | rfl
    · exact ⟨_, _, _, _, _, _, _, _, _, _, ⟨fun g b wh w h => do_get g b l s k c o n d i _ ix hix hx rfl s0 s1 wh a bb w h, fun g b w h => rdo_get g b l s k c o n d i _ ix hix hx rfl s0 s1 a bb w h, by simp, by omega, by omega, hl.set ix _ hX⟩⟩
    · exact ⟨_, _, _, _, _, _, _, _, _, _, ⟨fun g b wh w h => do_set g b l s k c o n d i _ ix hix hx rfl s0 s1 wh a bb w h, fun g b w h => rdo_set g b l s k c o n d i _ ix hix hx rfl s0 s1 a bb w h, by simp, by omega, by omega, hl.set ix _ ha⟩⟩
    · by_cases he : nth l ix = a
      · exact ⟨_, _, _, _, _, _, _, _, _, _, ⟨fun g b wh w h => do_hit g b l s k c o n d i _ ix hix hx rfl s0 s1 wh a bb he w h, fun g b w h => rdo_hit g b l s k c o n d i _ ix hix hx rfl s0 s1 a bb he w h, by simp, by omega, by omega, hl.set ix _ hb⟩⟩
      · exact ⟨_, _, _, _, _, _, _, _, _, _, ⟨fun g b wh w h => do_no g b l s k c o n d i _ ix hix hx rfl s0 s1 wh a bb he w h, fun g b w h => rdo_no g b l s k c o n d i _ ix hix hx rfl s0 s1 a bb he w h, by simp, by omega, by omega, hl.set ix _ hX⟩⟩
    · by_cases he : I64 (nth l ix + a)
      · exact ⟨_, _, _, _, _, _, _, _, _, _, ⟨fun g b wh w h => do_bump g b l s k c o n d i _ ix hix hx rfl s0 s1 wh a bb hX ha he w h, fun g b w h => rdo_bump g b l s k c o n d i _ ix hix hx rfl s0 s1 a bb hX ha he w h, by simp, by omega, by omega, hl.set ix _ he⟩⟩
      · exact ⟨_, _, _, _, _, _, _, _, _, _, ⟨fun g b wh w h => do_over g b l s k c o n d i _ ix hix hx rfl s0 s1 wh a bb hX ha he w h, fun g b w h => rdo_over g b l s k c o n d i _ ix hix hx rfl s0 s1 a bb hX ha he w h, rfl, s0, by omega, hl⟩⟩
/-! two steps that are the same -/
theorem eqf (F : Nat) (fs : List Field) (hF : (Try.prog.fieldsOf F).toList = fs) (hu : Try.prog.underlying F = some (.struct (Try.prog.fieldsOf F))) (hs : Try.prog.stoodInHeld F = false) (hn : fs.map (fun f => (decide (f.name ≠ "_"), f.type, f.offset)) = [(true, 3, 0), (true, 3, 1), (true, 3, 2), (true, 3, 3), (true, 4, 4)]) (hF3 : F = 35 ∨ F = 44) (w : World) (k c o n : Int) (d : Bool) :
    (Op.equalIn 10000 F (.agg #[.int .i64 k, .int .i64 c, .int .i64 o, .int .i64 n, .bool d]) (.agg #[.int .i64 k, .int .i64 c, .int .i64 o, .int .i64 n, .bool d])).run Try.prog w = .ok true w := by
  have h3 : ∀ (a b : Int) (w : World), (Op.equalIn 9999 3 (.int .i64 a) (.int .i64 b)).run Try.prog w = .ok (a == b) w := fun a b w => run_equalIn_int w 9998 3 .i64 .i64 a b Try.underlying3
  have h4 : ∀ (a b : Bool) (w : World), (Op.equalIn 9999 4 (.bool a) (.bool b)).run Try.prog w = .ok (a == b) w := fun a b w => run_equalIn_bool w 9998 4 a b Try.underlying4
  rw [run_equalIn_struct w 9999 F _ _ hu hs, hF]
  rcases fs with _ | ⟨f0, _ | ⟨f1, _ | ⟨f2, _ | ⟨f3, _ | ⟨f4, _ | ⟨f5, fs⟩⟩⟩⟩⟩⟩ <;> simp at hn
  obtain ⟨⟨a1, a2, a3⟩, ⟨b1, b2, b3⟩, ⟨c1, c2, c3⟩, ⟨d1, d2, d3⟩, e1, e2, e3⟩ := hn
  simp [Op.eqFields, part, go_sem, a1, a2, a3, b1, b2, b3, c1, c2, c3, d1, d2, d3, e1, e2, e3, h3, h4]
theorem neq35 (k c o n : Int) (d : Bool) (w : World) : (binOp .neq 35 (.agg #[.int .i64 k, .int .i64 c, .int .i64 o, .int .i64 n, .bool d]) (.agg #[.int .i64 k, .int .i64 c, .int .i64 o, .int .i64 n, .bool d])).run Try.prog w = .ok (.bool false) w := by
  have h := eqf 35 _ rfl (by kernel_rfl) (by kernel_rfl) (by kernel_rfl) (.inl rfl) w k c o n d
  simp only [binOp]
  simp [Op.equal, Op.maxDepth, h]
theorem neq44 (k c o n : Int) (d : Bool) (w : World) : (binOp .neq 44 (.agg #[.int .i64 k, .int .i64 c, .int .i64 o, .int .i64 n, .bool d]) (.agg #[.int .i64 k, .int .i64 c, .int .i64 o, .int .i64 n, .bool d])).run Try.prog w = .ok (.bool false) w := by
  have h := eqf 44 _ rfl (by kernel_rfl) (by kernel_rfl) (by kernel_rfl) (.inr rfl) w k c o n d
  simp only [binOp]
  simp [Op.equal, Op.maxDepth, h]
end Go.Proofs.Ytdeggnefbkcegaa
