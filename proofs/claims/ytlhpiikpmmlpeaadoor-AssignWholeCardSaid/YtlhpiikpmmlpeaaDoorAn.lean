/-
  assign: Answer; what a kernel that is none tells.
-/
import Derived.Test.YtlhpiikpmmlpeaaDoorAj
namespace Go.Proofs.YtlhpiikpmmlpeaaDoor
open Go.RowKit
set_option linter.unusedVariables false
set_option linter.unusedSimpArgs false
/-- what Answer leaves -/
def AnP (n : Nat) (p : List Int) (w : World) (e : Ending) (w' : World) : Prop :=
  (¬ (Pre n p ∧ p.length = n) ∧ e = .returned (.tuple #[.slice none 0 0, .int .i64 1]) ∧ Below w.heap.size w w') ∨
  (Pre n p ∧ p.length = n ∧ ∃ g cap, e = .returned (.tuple #[.slice (some ⟨g, 0, none⟩) p.length cap, .int .i64 0]) ∧ od.Own w.heap.size g p.length cap p w w')
set_option maxRecDepth 100000 in
set_option maxHeartbeats 4000000 in
theorem answer_any {B b n : Nat} {cl : List (List Int)} (p : List Int) (hp : p.length ≤ 1000) (pb po pc : Nat) (w : World) (h : AK B b n cl w) (hI : Ints w (some ⟨pb, po, none⟩) p) (hpb : pb < w.heap.size) (hpc : p.length ≤ pc ∧ pc ≤ 9223372036854775807) :
    Calls Tryd.prog 18 #[.pointer (some ⟨b, 0, none⟩), .slice (some ⟨pb, po, none⟩) p.length pc] w (AnP n p w) := by
  have HFr := Lib.hid (free_any p hp (some ⟨pb, po, none⟩) pc w h hI)
  have HD := Lib.hid (fun (W : World) (hb : Below w.heap.size w W) => depth_any (h.keep hb))
  have HCl := Lib.hid (fun (W : World) (hb : Below w.heap.size w W) => od.clone_any p pb po pc hpc.1 hp hpc.2 W (Nat.lt_of_lt_of_le hpb hb.size) (fun j hj => by
    obtain ⟨b', o', e, _, m⟩ := (hI.keep hb) j hj
    injection e with e
    injection e with e1 e2
    subst e1 e2
    rw [m]
    unfold od.nth
    rfl))
  have HN : Hid (∀ w', ¬ (Pre n p ∧ p.length = n) → Below w.heap.size w w' → AnP n p w (.returned (.tuple #[.slice none 0 0, .int .i64 1])) w') := fun w' q hb => .inl ⟨q, rfl, hb⟩
  have HY : Hid (∀ g cap w', Pre n p → p.length = n → od.Own w.heap.size g p.length cap p w w' → AnP n p w (.returned (.tuple #[.slice (some ⟨g, 0, none⟩) p.length cap, .int .i64 0])) w') := fun g cap w' h1 h2 h3 => .inr ⟨h1, h2, g, cap, rfl, h3⟩
  have n24 := h.2.2.1
  have PL := Lib.hid (fun (q : Pre n p) => pre_len q)
  clear h hI hpc
  generalize AnP n p w = G at *
  obtain ⟨l, hl⟩ : ∃ l, l = p.length := ⟨_, rfl⟩
  have HL := Lib.hid hl
  rw [← hl] at HCl HY HFr PL HN ⊢
  clear hl hp
  by_cases hP : Pre n p
  rotate_left
  · have HP := Lib.hid hP
    clear hP
    go_enter Tryd.func18, Tryd.ntmps18
    go_wp2_with fail
    refine HFr.out.mono ?_; rintro e w1 q
    rcases q with ⟨q, _⟩ | ⟨_, rfl, hb1⟩
    · exact absurd q HP.out
    have B1 := Lib.hid (HN.out _ (fun q => HP.out q.1) (bl_al hb1 (.cells #[.int .u64 0, .int .u64 0] 55)))
    clear hb1
    go_wp2
    first
      | exact B1.out
      | (go_ret; exact B1.out)
  · have hle := PL.out hP
    have HP := Lib.hid hP
    clear hP
    go_enter Tryd.func18, Tryd.ntmps18
    go_wp2_with fail
    refine HFr.out.mono ?_; rintro e w1 q
    rcases q with ⟨_, ⟨a, c, rfl, _, _, _⟩, hb1⟩ | ⟨q, _⟩
    rotate_left
    · exact absurd HP.out q
    have B1 := Lib.hid (bl_al hb1 (.cells #[.int .u64 a, .int .u64 c] 55))
    clear hb1
    go_wp2_with fail
    refine (HD.out _ B1.out).mono ?_; rintro e w2 ⟨rfl, rfl⟩
    by_cases hln : l = n
    · have p1 : ¬ (l : Int) < (n : Int) := by omega
      have HLn := Lib.hid hln
      clear hle hln
      go_wp2_with fail
      refine (HCl.out _ B1.out).mono ?_; rintro e w3 ⟨g, cap, rfl, ho⟩
      have HE := Lib.hid (HY.out g cap w3 HP.out HLn.out (own_low ho B1.out.size (bl_tr B1.out ho.2.2.2)))
      clear ho
      go_wp2
      first
        | exact HE.out
        | (go_ret; exact HE.out)
    · have p1 : (l : Int) < (n : Int) := by omega
      have HE := Lib.hid (HN.out _ (fun q => hln q.2) B1.out)
      go_wp2
      first
        | exact HE.out
        | (go_ret; exact HE.out)
theorem free_nil (w : World) : Calls Tryd.prog 49 #[.pointer none, .slice none 0 0] w fun e w' => e = .returned (.tuple #[.agg #[.int .u64 0, .int .u64 0], .int .i64 1]) ∧ Below w.heap.size w w' := by
  have HD := Lib.hid (fun W => depth_nil W)
  have QZ := Lib.hid (heap_alloc_new w (.cells #[.int .u64 0, .int .u64 0] 55))
  have bZ : Below w.heap.size w (w.alloc (.cells #[.int .u64 0, .int .u64 0] 55)) := bl_al (Below.refl _ _) _
  go_enter Tryd.func49, Tryd.ntmps49
  go_wp2_with fail
  refine (HD.out _).mono ?_; rintro e w1 ⟨rfl, rfl⟩
  have RS := Lib.hid (two_set QZ.out (.int .u64 0) (.int .u64 0))
  have HE := Lib.hid ((bZ.setCell (p := ⟨w.heap.size, 0, none⟩) (Nat.le_refl _) (.int .u64 0)).setCell (p := ⟨w.heap.size, 1, none⟩) (Nat.le_refl _) (.int .u64 0))
  obtain ⟨r0, r1, rf, rl⟩ := two_row QZ.out
  obtain ⟨s0, s1, -, -⟩ := two_row RS.out
  go_wp2
  first
    | (simp [bodyPost, results, Tryd.results49, go_sem, s0, s1]; exact HE.out)
    | (simp [bodyPost, results, Tryd.results49, go_sem]; exact bZ)
theorem kids_nil (w : World) : Calls Tryd.prog 16 #[.pointer none, .slice none 0 0] w fun e w' => e = .returned (.tuple #[.slice none 0 0, .int .i64 1]) ∧ Below w.heap.size w w' := by
  have HF := Lib.hid (free_nil w)
  go_enter Tryd.func16, Tryd.ntmps16
  go_wp2_with fail
  refine HF.out.mono ?_; rintro e w1 ⟨rfl, hb⟩
  have B1 := Lib.hid (bl_al hb (.cells #[.int .u64 0, .int .u64 0] 55))
  clear hb
  go_wp2
  first
    | exact ⟨rfl, B1.out⟩
    | (go_ret2; exact ⟨rfl, B1.out⟩)
    | (go_ret; exact ⟨rfl, B1.out⟩)
theorem bound_nil (w : World) : Calls Tryd.prog 17 #[.pointer none, .slice none 0 0] w fun e w' => e = .returned (.tuple #[.int .i64 0, .int .i64 1]) ∧ Below w.heap.size w w' := by
  have HF := Lib.hid (free_nil w)
  go_enter Tryd.func17, Tryd.ntmps17
  go_wp2_with fail
  refine HF.out.mono ?_; rintro e w1 ⟨rfl, hb⟩
  have B1 := Lib.hid (bl_al hb (.cells #[.int .u64 0, .int .u64 0] 55))
  clear hb
  go_wp2
  first
    | exact ⟨rfl, B1.out⟩
    | (go_ret2; exact ⟨rfl, B1.out⟩)
    | (go_ret; exact ⟨rfl, B1.out⟩)
theorem answer_nil (w : World) : Calls Tryd.prog 18 #[.pointer none, .slice none 0 0] w fun e w' => e = .returned (.tuple #[.slice none 0 0, .int .i64 1]) ∧ Below w.heap.size w w' := by
  have HF := Lib.hid (free_nil w)
  go_enter Tryd.func18, Tryd.ntmps18
  go_wp2_with fail
  refine HF.out.mono ?_; rintro e w1 ⟨rfl, hb⟩
  have B1 := Lib.hid (bl_al hb (.cells #[.int .u64 0, .int .u64 0] 55))
  clear hb
  go_wp2
  first
    | exact ⟨rfl, B1.out⟩
    | (go_ret2; exact ⟨rfl, B1.out⟩)
    | (go_ret; exact ⟨rfl, B1.out⟩)
theorem none_any (w : World) : Calls Tryd.prog 15 #[] w fun e w' => e = .returned (.pointer none) ∧ w = w' := by
  go_enter Tryd.func15, Tryd.ntmps15
  go_wp2
  first
    | exact ⟨rfl, rfl⟩
    | (go_ret; exact ⟨rfl, rfl⟩)
end Go.Proofs.YtlhpiikpmmlpeaaDoor
