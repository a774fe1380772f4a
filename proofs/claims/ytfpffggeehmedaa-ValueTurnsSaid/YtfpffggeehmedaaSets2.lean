/-
  What With and Of answer.
-/
import Derived.Test.YtfpffggeehmedaaSets
import Derived.Test.YtfpffggeehmedaaSrc
import Derived.Deep.RegionHeld3
import Derived.Deep.RegionWith
namespace Go.Proofs.Ytfpffggeehmedaa
open Go.RowKit
set_option linter.unusedVariables false

theorem bl_undr {X w : World} (h : Below X.drew.heap.size X.drew w) : Below X.heap.size X w := ⟨h.os, h.tape, h.output, h.size, h.block⟩
theorem two_keep {W W1 : World} {b : Nat} {v0 v1 : Value} {t : TypeId} (hb : Below W.heap.size W W1) (q : W.heap[b]? = some (.cells #[v0, v1] t (0, 0))) :
    W1.cell? ⟨b, 0, none⟩ = some v0 ∧ W1.cell? ⟨b, 1, none⟩ = some v1 :=
  have e := (hb.block _ (lt_hp q)).trans q
  ⟨cell_of_row _ _ 0 _ _ _ e, cell_of_row _ _ 1 _ _ _ e⟩
set_option maxHeartbeats 1000000 in
theorem with_any (s : Nat) (hs : s < 2 ^ 128) (i : Int) (w : World) :
    Calls Try.prog 37 #[.agg #[.int .u64 (lo s), .int .u64 (hi s)], .int .i64 i] w fun e w' => e = .returned (.agg #[.int .u64 (lo (s ||| bit i)), .int .u64 (hi (s ||| bit i))]) ∧ Below w.heap.size w w' := by
  have H1 := Lib.hid (fun W => single_any i W)
  have H2 := Lib.hid (fun W => or_any s (bit i) hs (bit_lt i) W)
  clear hs
  generalize lo (s ||| bit i) = r0 at *
  generalize hi (s ||| bit i) = r1 at *
  generalize lo s = s0 at *
  generalize hi s = s1 at *
  generalize lo (bit i) = b0 at *
  generalize hi (bit i) = b1 at *
  go_enter Try.func37, Try.ntmps37
  go_wp2
  have q : ((w.alloc (.cells #[.int .u64 s0, .int .u64 s1] 47)).alloc (.cells #[.int .u64 0, .int .u64 0] 47)).heap[w.heap.size]? = some (.cells #[.int .u64 s0, .int .u64 s1] 47 (0, 0)) := heap_alloc2_old w _ _
  have q2 : ((w.alloc (.cells #[.int .u64 s0, .int .u64 s1] 47)).alloc (.cells #[.int .u64 0, .int .u64 0] 47)).heap[w.heap.size + 1]? = some (.cells #[.int .u64 0, .int .u64 0] 47 (0, 0)) := heap_alloc2_new w _ _
  have B0 := Lib.hid (bl_al (bl_al (Below.refl w.heap.size w) (.cells #[.int .u64 s0, .int .u64 s1] 47)) (.cells #[.int .u64 0, .int .u64 0] 47))
  have Q := Lib.hid q
  have Q2 := Lib.hid q2
  clear q q2
  generalize ((w.alloc (.cells #[.int .u64 s0, .int .u64 s1] 47)).alloc (.cells #[.int .u64 0, .int .u64 0] 47)) = X at *
  obtain ⟨c0, c1⟩ := two_keep (Below.refl _ _) Q.out
  go_region_with (first
    | (go_at_call 40; refine (H1.out _).mono ?_; rintro e w1 ⟨rfl, hb1⟩; obtain ⟨k0, k1⟩ := two_keep hb1 Q.out)
    | (go_at_call 39; refine (H2.out _).mono ?_; rintro e w2 ⟨rfl, hb2⟩; have hb3 := bl_tr hb1 hb2; obtain ⟨m0, m1⟩ := two_keep hb3 Q2.out; have mf := frozen_of_row _ _ 0 _ _ ((hb3.block _ (lt_hp Q2.out)).trans Q2.out); have mf1 := frozen_of_row _ _ 1 _ _ ((hb3.block _ (lt_hp Q2.out)).trans Q2.out)))
  all_goals
    go_wp2
    exact bodyPost_ret (v := .agg #[.int .u64 r0, .int .u64 r1]) (by simp [results, Try.results37, go_sem, m0, m1]) rfl ⟨rfl, ((B0.out.trans ((bl_undr hb3).mono B0.out.size)).setCell (p := ⟨w.heap.size + 1, 0, none⟩) (by simp) _).setCell (p := ⟨w.heap.size + 1, 1, none⟩) (by simp) _⟩

/-- the set that is made, and the place of what is told -/
def OfAt (w : World) (l : List Int) (k : Nat) (wr : World) : Prop :=
  ∃ s : Nat, s < 2 ^ 128 ∧ ofS 0 l = ofS s (l.drop k) ∧ wr.heap[w.heap.size]? = some (.cells #[.int .u64 0, .int .u64 0] 47 (0, 0)) ∧ wr.heap[w.heap.size + 1]? = some (.cells #[.int .u64 (lo s), .int .u64 (hi s)] 47 (0, 0)) ∧ Below w.heap.size w wr
theorem two_set {W : World} {b : Nat} {v0 v1 u0 u1 : Value} {t : TypeId} (q : W.heap[b]? = some (.cells #[v0, v1] t (0, 0))) :
    ((W.setCell ⟨b, 0, none⟩ u0).setCell ⟨b, 1, none⟩ u1).heap[b]? = some (.cells #[u0, u1] t (0, 0)) := by
  have h0 := heap_setCell_same W b 0 _ t u0 q
  have h1 := heap_setCell_same _ b 1 _ t u1 h0
  simpa using h1
theorem of_next {w wr w2 : World} {l : List Int} {k : Nat} {s : Nat} {x : Int} (hx : l.drop k = x :: l.drop (k + 1)) (hs : s < 2 ^ 128) (he : ofS 0 l = ofS s (l.drop k)) (q1 : wr.heap[w.heap.size]? = some (.cells #[.int .u64 0, .int .u64 0] 47 (0, 0)))
    (q2 : wr.heap[w.heap.size + 1]? = some (.cells #[.int .u64 (lo s), .int .u64 (hi s)] 47 (0, 0))) (hb : Below w.heap.size w wr) (hb2 : Below wr.heap.size wr w2) (u0 u1 : Value) (e0 : u0 = .int .u64 (lo (s ||| bit x))) (e1 : u1 = .int .u64 (hi (s ||| bit x))) :
    OfAt w l (k + 1) ((w2.setCell ⟨w.heap.size + 1, 0, none⟩ u0).setCell ⟨w.heap.size + 1, 1, none⟩ u1) := by
  refine ⟨s ||| bit x, Nat.or_lt_two_pow hs (bit_lt x), by rw [he, hx, ofS_cons], ?_, ?_, ?_⟩
  · rw [heap_setCell_other _ ⟨w.heap.size + 1, 1, none⟩ _ _ (by simp), heap_setCell_other _ ⟨w.heap.size + 1, 0, none⟩ _ _ (by simp)]
    exact (hb2.block _ (lt_hp q1)).trans q1
  · subst e0 e1
    exact two_set ((hb2.block _ (lt_hp q2)).trans q2)
  · exact ((hb.trans (hb2.mono hb.size)).setCell (p := ⟨w.heap.size + 1, 0, none⟩) (by simp) _).setCell (p := ⟨w.heap.size + 1, 1, none⟩) (by simp) _
theorem of_start (w : World) (l : List Int) : OfAt w l 0 ((w.alloc (.cells #[.int .u64 0, .int .u64 0] 47)).alloc (.cells #[.int .u64 0, .int .u64 0] 47)) :=
  ⟨0, by decide, rfl, heap_alloc2_old w _ _, by
    have e0 : lo 0 = 0 := by unfold lo; rfl
    have e1 : hi 0 = 0 := by unfold hi; rfl
    rw [e0, e1]; exact heap_alloc2_new w _ _, bl_al (bl_al (Below.refl _ _) _) _⟩
set_option maxHeartbeats 1000000 in
theorem of_any (l : List Int) (a : Option Addr) (c : Nat) (w : World) (hI : Ints w a l) (hl : l.length ≤ 1000) :
    Calls Try.prog 33 #[.slice a l.length c] w fun e w' => e = .returned (.agg #[.int .u64 (lo (ofS 0 l)), .int .u64 (hi (ofS 0 l))]) ∧ Below w.heap.size w w' := by
  have A0 := Lib.hid (of_start w l)
  have HI := Lib.hid hI
  have HL := Lib.hid hl
  generalize hn : l.length = n at *
  have HN := Lib.hid hn
  clear hI hl hn
  have hn1 := HL.out
  go_enter Try.func33, Try.ntmps33
  go_wp2
  go_loopw [8] (fun i wr => ∃ k : Nat, k ≤ n ∧ i = .int .i64 k ∧ Hid (OfAt w l k wr)) (fun i _ => n - (intOf i).toNat)
  case atStart => exact ⟨0, by omega, rfl, A0⟩
  case round =>
    clear A0
    obtain ⟨k, hk, rfl, HO⟩ := hrel
    obtain ⟨s, hs, he, q1, q2, hb⟩ := HO.out
    clear HO
    have HE := Lib.hid he
    have Q1 := Lib.hid q1
    have Q2 := Lib.hid q2
    have HB := Lib.hid hb
    have HS := Lib.hid hs
    obtain ⟨c0, c1⟩ := two_keep (Below.refl _ _) q2
    clear he q1 q2 hb hs
    by_cases hlt : k < n
    · obtain ⟨b, o, rfl, hbl, hc⟩ := HI.out k (by have := HN.out; omega)
      have hd := Lib.hid (drop_get (l := l) (k := k) (by have := HN.out; omega))
      have hcr : wr.cell? ⟨b, o + k, none⟩ = some (.int .i64 (l[k]?.getD 0)) := (HB.out.cell (p := ⟨b, o + k, none⟩) hbl).trans hc
      clear hc
      generalize l[k]?.getD 0 = x at *
      have HW := Lib.hid (fun W => with_any s HS.out x W)
      have U0 : ∃ v, v = lo (s ||| bit x) := ⟨_, rfl⟩
      obtain ⟨u0, hu0⟩ := U0
      have U1 : ∃ v, v = hi (s ||| bit x) := ⟨_, rfl⟩
      obtain ⟨u1, hu1⟩ := U1
      rw [← hu0, ← hu1] at HW
      have HU0 := Lib.hid hu0
      have HU1 := Lib.hid hu1
      clear hu0 hu1
      generalize hlo : lo s = s0 at *
      generalize hhi : hi s = s1 at *
      have HLO := Lib.hid hlo
      have HHI := Lib.hid hhi
      clear hlo hhi
      go_wp2_with fail
      refine (HW.out _).mono ?_; rintro e w2 ⟨rfl, hb2⟩
      have HB2 := Lib.hid hb2
      obtain ⟨d0, d1⟩ := two_keep HB2.out Q2.out
      have df := frozen_of_row _ _ 0 _ _ ((HB2.out.block _ (lt_hp Q2.out)).trans Q2.out)
      have df1 := frozen_of_row _ _ 1 _ _ ((HB2.out.block _ (lt_hp Q2.out)).trans Q2.out)
      clear hb2
      go_wp2
      go_roundw
      case rel => exact ⟨k + 1, by omega, by go_num, of_next hd.out HS.out HE.out Q1.out (by rw [HLO.out, HHI.out]; exact Q2.out) HB.out HB2.out _ _ (by rw [HU0.out]) (by rw [HU1.out])⟩
      case measure => simp [intOf]; omega
    · obtain rfl : n = k := by omega
      have e := HE.out
      rw [List.drop_eq_nil_of_le (by have := HN.out; omega), ofS_nil] at e
      subst e
      obtain ⟨r0, r1⟩ := two_keep (Below.refl _ _) Q1.out
      have rf := frozen_of_row _ _ 0 _ _ Q1.out
      have rf1 := frozen_of_row _ _ 1 _ _ Q1.out
      clear HE hk hlt
      go_wp2
      exact bodyPost_ret (v := .agg #[.int .u64 (lo (ofS 0 l)), .int .u64 (hi (ofS 0 l))]) (by simp [results, Try.results33, go_sem, r0, r1]) rfl ⟨rfl, (HB.out.setCell (p := ⟨w.heap.size, 0, none⟩) (by simp) _).setCell (p := ⟨w.heap.size, 1, none⟩) (by simp) _⟩
end Go.Proofs.Ytfpffggeehmedaa
