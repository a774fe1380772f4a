/-
  Parse, where the scan tells tokens.
-/
import Derived.Test.YtegieoajjfodcaaGreatDoorPa
namespace Go.Proofs.YtegieoajjfodcaaGreatDoor
open Go.RowKit
set_option linter.unusedVariables false
theorem bg {B b : Nat} {a w w' : World} (h : Below B a w) (hg : w.grownBy w' (some b)) (hb : B ≤ b) (hB : B ≤ w.heap.size) : Below B a w' :=
  ⟨hg.os.trans h.os, hg.tape.trans h.tape, hg.output.trans h.output, Nat.le_trans h.size hg.size, fun i hi => (hg.block i (Nat.lt_of_lt_of_le hi hB) (fun e => by injection e with e; omega)).trans (h.block i hi)⟩
theorem ppost_any {b g C : Nat} {T : List Tok} {w w' : World} {r : Ending} (h : PPost b g C T w r w') : ∃ (x y z : Int) (d1 d2 d3 : Option Addr) (l1 l2 l3 c1 c2 c3 : Nat), r = .returned (.agg #[.int .i64 x, .int .i64 y, .int .i64 z, .slice d1 l1 c1, .slice d2 l2 c2, .slice d3 l3 c3]) ∧ RS b g C T (PS T) w' ∧ w.grownBy w' (some b) := by
  unfold PPost at h
  split at h
  · obtain ⟨gc, gs, rfl, hR, hT, hG⟩ := h
    exact ⟨_, _, _, _, _, _, _, _, _, _, _, _, rfl, hR, hG⟩
  · split at h
    · obtain ⟨gc, gs, rfl, hR, hT, hG⟩ := h
      exact ⟨_, _, _, _, _, _, _, _, _, _, _, _, rfl, hR, hG⟩
    · obtain ⟨aw, av, cw, cv, rfl, hW, hV, hR, hG⟩ := h
      exact ⟨_, _, _, _, _, _, _, _, _, _, _, _, rfl, hR, hG⟩
/-- the box of a new reader -/
def rbox (g n cap : Nat) : Obj := .cells #[.slice (some ⟨g, 0, none⟩) n cap, .int .i64 0] 62 (0, 0)
theorem rs_new {g cap : Nat} {T : List Tok} {w : World} {B : Nat} (hT : Toks T) (h : w.ownsRow B 65 4 (.slice (some ⟨g, 0, none⟩) T.length cap) T.length (encL T)) : RS w.heap.size g cap T ⟨0, 0⟩ (w.alloc (rbox g T.length cap)) := by
  rcases h.2 with ⟨e, _⟩ | ⟨g', cap', cur, e, _, hh, hn, _, hs, ht⟩
  · cases e
  · injection e with e1 e2 e3
    injection e1 with e1
    injection e1 with e1
    subst e1 e3
    refine ⟨heap_alloc_new w _, ⟨cur, (Below.heap_alloc w _ _ (lt_blk hh)).trans hh, fun j hj => ?_⟩, hT.pos, hn, hT⟩
    rw [← ht, List.getElem?_take_of_lt hj]
    exact (Array.getElem?_toList).symm
set_option maxRecDepth 100000 in
set_option maxHeartbeats 4000000 in
theorem parse_toks (s : ByteArray) (T : List Tok) (hT : Toks T) (w : World) (HS : Hid (∀ W, Calls Tryz.prog 19 #[.string s] W fun e w' => ∃ v, e = .returned (.tuple #[v, .int .i64 0, .int .i64 0]) ∧ w'.ownsRow W.heap.size 65 4 v T.length (encL T) ∧ Below W.heap.size W w')) :
    Calls Tryz.prog 8 #[.string s] w (PaP w (PR T)) := by
  have B0 : Hid (Below w.heap.size w (w.alloc zero6)) := bl_al (Below.refl _ _) _
  have H0 : Hid ((w.alloc zero6).heap[w.heap.size]? = some zero6 ∧ w.heap.size < (w.alloc zero6).heap.size) := ⟨heap_alloc_new w zero6, by simp⟩
  unfold zero6 at B0 H0
  by_cases hf : (fin T (PS T)).f = 0
  · obtain ⟨P, hP⟩ : ∃ P, P = PS T := ⟨_, rfl⟩
    have hfin := (fin_ok hf).2.1
    have HP := Lib.hid hP
    have HT := Lib.hid hT
    have HF := Lib.hid hf
    have HFI := Lib.hid hfin
    clear hP hT hf hfin
    go_enter Tryz.func8, Tryz.ntmps8
    go_wp2_with fail
    refine (HS.out _).mono ?_
    rintro e w1 ⟨v, rfl, hO, hB⟩
    obtain ⟨g, cap, rfl, hg1, hg2⟩ := hO.form HT.out.pos
    have B1 := Lib.hid (bl_tr B0.out hB)
    have H1 : Hid (w1.heap[w.heap.size]? = some (.cells #[.int .i64 0, .int .i64 0, .int .i64 0, .slice none 0 0, .slice none 0 0, .slice none 0 0] 30 (0, 0)) ∧ w.heap.size < w1.heap.size) := ⟨(hB.block _ H0.out.2).trans H0.out.1, by have := hB.size; have := H0.out.2; omega⟩
    have HPb := Lib.hid (problem_s w1.heap.size g cap T (w1.alloc (rbox g T.length cap)) (rs_new HT.out hO))
    have B2 : Hid (Below w.heap.size w (w1.alloc (rbox g T.length cap)) ∧ (w1.alloc (rbox g T.length cap)).heap[w.heap.size]? = some (.cells #[.int .i64 0, .int .i64 0, .int .i64 0, .slice none 0 0, .slice none 0 0, .slice none 0 0] 30 (0, 0)) ∧ (w1.alloc (rbox g T.length cap)).heap.size = w1.heap.size + 1 ∧ w.heap.size < w1.heap.size) :=
      ⟨bl_al B1.out _, (Below.heap_alloc w1 _ _ H1.out.2).trans H1.out.1, by simp, H1.out.2⟩
    unfold rbox at HPb B2
    clear HS hO hB B0 H0 B1 H1 hg1 hg2
    go_wp2_with fail
    refine HPb.out.mono ?_
    intro e w2 hPP
    obtain ⟨v, K, N, Cc, wl, vl, cl, hPR, rfl, hV, hR, hG⟩ := pr_ok HT.out hPP (by have := HF.out; exact this)
    have HPR := Lib.hid hPR
    obtain ⟨wa, va, ca, wc, vc, cc, hv, hrest⟩ := hV.ex
    clear hrest
    subst hv
    obtain ⟨o, ho⟩ : ∃ o, o = (Obj.cells #[.int .i64 K, .int .i64 N, .int .i64 Cc, .slice wa wl.length wc, .slice va vl.length vc, .slice ca cl.length cc] 30 (0, 0)) := ⟨_, rfl⟩
    have HE := Lib.hid (end_s w1.heap.size g cap T (PS T) (w2.alloc o) (hR.alloc o))
    have V3 := Lib.hid (hV.up (bl_al (Below.refl _ _) o))
    have B3 : Hid (Below w.heap.size w (w2.alloc o) ∧ (w2.alloc o).heap[w.heap.size]? = some (.cells #[.int .i64 0, .int .i64 0, .int .i64 0, .slice none 0 0, .slice none 0 0, .slice none 0 0] 30 (0, 0)) ∧ w1.heap.size < w2.heap.size ∧ w.heap.size < w1.heap.size ∧ (w2.alloc o).heap[w2.heap.size]? = some o ∧ (w1.alloc (.cells #[.slice (some ⟨g, 0, none⟩) T.length cap, .int .i64 0] 62)).heap.size = w1.heap.size + 1 ∧ ∃ cs : Array Value, (w2.alloc o).heap[w1.heap.size]? = some (.cells cs 62 (0, 0))) := by
      obtain ⟨a1, a2, a3, a4⟩ := B2.out
      have hz := hG.size
      have k1 := bg a1 hG (by omega) (by omega)
      refine ⟨k1.alloc k1.size o, (Below.heap_alloc w2 o _ (by omega)).trans ((hG.block _ (by omega) (fun e => by injection e with e; omega)).trans a2), by omega, a4, heap_alloc_new w2 o, a3, (hR.alloc o).rbox⟩
    subst ho
    clear HPb hPP hR hG B2 hV hPR
    go_wp2_with fail
    refine HE.out.mono ?_
    rintro e w3 ⟨rfl, hR, hG⟩
    obtain ⟨k0, k1, k2⟩ := hR.box.cells
    have hf0 : (fin T (PS T)).f = 0 := HF.out
    rw [hf0] at k1
    have BF : Hid (Below w.heap.size w w3 ∧ IV (.agg #[.int .i64 K, .int .i64 N, .int .i64 Cc, .slice wa wl.length wc, .slice va vl.length vc, .slice ca cl.length cc]) K N Cc wl vl cl (w1.heap.size + 1) w3 ∧ w.heap.size < w1.heap.size) := by
      obtain ⟨a1, a2, a3, a4, a5, a6, cs, a7⟩ := B3.out
      have hv3 := V3.out.kept hG a7 (by decide) (by decide)
      rw [a6] at hv3
      exact ⟨bg a1 hG (by omega) (by simp; omega), hv3, a4⟩
    obtain ⟨hq, hi⟩ : w3.heap[w.heap.size]? = some (.cells #[.int .i64 0, .int .i64 0, .int .i64 0, .slice none 0 0, .slice none 0 0, .slice none 0 0] 30 (0, 0)) ∧ w3.heap[w2.heap.size]? = some (.cells #[.int .i64 K, .int .i64 N, .int .i64 Cc, .slice wa wl.length wc, .slice va vl.length vc, .slice ca cl.length cc] 30 (0, 0)) := by
      obtain ⟨a1, a2, a3, a4, a5, a6, cs, a7⟩ := B3.out
      exact ⟨(hG.block _ (by simp; omega) (fun e => by injection e with e; omega)).trans a2, (hG.block _ (by simp) (fun e => by injection e with e; omega)).trans a5⟩
    obtain ⟨z0, z1, z2, z3, z4, z5⟩ := ip.box6 hq
    have zf := ip.fr6 hq
    have f0 := zf 0; have f1 := zf 1; have f2 := zf 2; have f3 := zf 3; have f4 := zf 4; have f5 := zf 5
    obtain ⟨y0, y1, y2, y3, y4, y5⟩ := ip.box6 hi
    have R6 := Lib.hid (ip.box6 (ip.six hq (.int .i64 K) (.int .i64 N) (.int .i64 Cc) (.slice wa wl.length wc) (.slice va vl.length vc) (.slice ca cl.length cc)))
    have FN : Hid (PaP w (PR T) (.returned (.tuple #[.agg #[.int .i64 K, .int .i64 N, .int .i64 Cc, .slice wa wl.length wc, .slice va vl.length vc, .slice ca cl.length cc], .int .i64 0, .int .i64 0])) ((((((w3.setCell ⟨w.heap.size, 0, none⟩ (.int .i64 K)).setCell ⟨w.heap.size, 1, none⟩ (.int .i64 N)).setCell ⟨w.heap.size, 2, none⟩ (.int .i64 Cc)).setCell ⟨w.heap.size, 3, none⟩ (.slice wa wl.length wc)).setCell ⟨w.heap.size, 4, none⟩ (.slice va vl.length vc)).setCell ⟨w.heap.size, 5, none⟩ (.slice ca cl.length cc))) := by
      obtain ⟨a1, a2, a3⟩ := BF.out
      rw [HPR.out]
      refine ⟨_, rfl, ?_, ip.six_below a1 (Nat.le_refl _) _ _ _ _ _ _⟩
      have hq : w.heap.size < w1.heap.size + 1 := by omega
      exact ((((((a2.set hq 0 _).set hq 1 _).set hq 2 _).set hq 3 _).set hq 4 _).set hq 5 _).le (by omega)
    clear HE hR hG k0 k2 BF hq hi zf hf0 B3 V3 HPR HFI HF HP HT
    go_wp2
    obtain ⟨r0, r1, r2, r3, r4, r5⟩ := R6.out
    exact bodyPost_ret (v := .tuple #[.agg #[.int .i64 K, .int .i64 N, .int .i64 Cc, .slice wa wl.length wc, .slice va vl.length vc, .slice ca cl.length cc], .int .i64 0, .int .i64 0]) (by simp [results, Tryz.results8, go_sem, r0, r1, r2, r3, r4, r5]) rfl FN.out
  · have hPR : PR T = .bad (tk T (fin T (PS T)).p).at_ (fin T (PS T)).f := by unfold PR; rw [if_pos hf]
    rw [hPR]
    unfold PaP
    obtain ⟨P, hP⟩ : ∃ P, P = fin T (PS T) := ⟨_, rfl⟩
    rw [← hP] at hf ⊢
    have HP := Lib.hid hP
    have HT := Lib.hid hT
    obtain ⟨er, her⟩ : ∃ er, er = P.f := ⟨_, rfl⟩
    obtain ⟨at_, hat⟩ : ∃ at_, at_ = (tk T P.p).at_ := ⟨_, rfl⟩
    rw [← her, ← hat]
    have HEA := Lib.hid (And.intro her hat)
    clear hP hPR hT her hat
    go_enter Tryz.func8, Tryz.ntmps8
    go_wp2_with fail
    refine (HS.out _).mono ?_
    rintro e w1 ⟨v, rfl, hO, hB⟩
    obtain ⟨g, cap, rfl, hg1, hg2⟩ := hO.form HT.out.pos
    have B1 := Lib.hid (bl_tr B0.out hB)
    have H1 : Hid (w1.heap[w.heap.size]? = some (.cells #[.int .i64 0, .int .i64 0, .int .i64 0, .slice none 0 0, .slice none 0 0, .slice none 0 0] 30 (0, 0)) ∧ w.heap.size < w1.heap.size) := ⟨(hB.block _ H0.out.2).trans H0.out.1, by have := hB.size; have := H0.out.2; omega⟩
    have HPb := Lib.hid (problem_s w1.heap.size g cap T (w1.alloc (rbox g T.length cap)) (rs_new HT.out hO))
    have B2 : Hid (Below w.heap.size w (w1.alloc (rbox g T.length cap)) ∧ (w1.alloc (rbox g T.length cap)).heap[w.heap.size]? = some (.cells #[.int .i64 0, .int .i64 0, .int .i64 0, .slice none 0 0, .slice none 0 0, .slice none 0 0] 30 (0, 0)) ∧ (w1.alloc (rbox g T.length cap)).heap.size = w1.heap.size + 1 ∧ w.heap.size < w1.heap.size) :=
      ⟨bl_al B1.out _, (Below.heap_alloc w1 _ _ H1.out.2).trans H1.out.1, by simp, H1.out.2⟩
    unfold rbox at HPb B2
    clear HS hO hB B0 H0 B1 H1 hg1 hg2
    go_wp2_with fail
    refine HPb.out.mono ?_
    intro e w2 hPP
    obtain ⟨x, y, z, d1, d2, d3, l1, l2, l3, c1, c2, c3, rfl, hR, hG⟩ := ppost_any hPP
    obtain ⟨o, ho⟩ : ∃ o, o = (Obj.cells #[.int .i64 x, .int .i64 y, .int .i64 z, .slice d1 l1 c1, .slice d2 l2 c2, .slice d3 l3 c3] 30 (0, 0)) := ⟨_, rfl⟩
    have HE := Lib.hid (end_s w1.heap.size g cap T (PS T) (w2.alloc o) (hR.alloc o))
    rw [← HP.out] at HE
    have B3 : Hid (Below w.heap.size w (w2.alloc o) ∧ (w2.alloc o).heap[w.heap.size]? = some (.cells #[.int .i64 0, .int .i64 0, .int .i64 0, .slice none 0 0, .slice none 0 0, .slice none 0 0] 30 (0, 0)) ∧ w1.heap.size < w2.heap.size ∧ w.heap.size < w1.heap.size) := by
      obtain ⟨a1, a2, a3, a4⟩ := B2.out
      have hz := hG.size
      have k1 := bg a1 hG (by omega) (by omega)
      refine ⟨k1.alloc k1.size o, (Below.heap_alloc w2 o _ (by omega)).trans ((hG.block _ (by omega) (fun e => by injection e with e; omega)).trans a2), by omega, a4⟩
    subst ho
    clear HPb hPP hR hG B2
    go_wp2_with fail
    refine HE.out.mono ?_
    rintro e w3 ⟨rfl, hR, hG⟩
    have hlt := hR.lt
    have hcap := hR.cap
    obtain ⟨k0, k1, k2⟩ := hR.drew.box.cells
    obtain ⟨t0, t1, t2, t3⟩ := hR.drew.toks.front hlt
    have d0 : (P.f != 0) = true := by simpa using hf
    obtain ⟨m, hm⟩ : ∃ m, T.length - P.p = m + 1 := ⟨T.length - P.p - 1, by omega⟩
    obtain ⟨cc, hcc⟩ : ∃ cc, cap - P.p = cc + 1 := ⟨cap - P.p - 1, by omega⟩
    rw [hm, hcc] at k0
    rw [← HEA.out.1] at k1 d0
    rw [← HEA.out.2] at t3
    have kk1 : w3.cell? ⟨w1.heap.size, 1, none⟩ = some (.int .i64 er) := k1
    clear HEA
    have BF : Hid (Below w.heap.size w w3 ∧ w3.heap[w.heap.size]? = some (.cells #[.int .i64 0, .int .i64 0, .int .i64 0, .slice none 0 0, .slice none 0 0, .slice none 0 0] 30 (0, 0)) ∧ w.heap.size ≠ w1.heap.size ∧ w.heap.size ≠ g) := by
      obtain ⟨a1, a2, a3, a4⟩ := B3.out
      have e1 := bg a1 hG (by omega) (by simp; omega)
      have e2 := (hG.block _ (by simp; omega) (fun e => by injection e with e; omega)).trans a2
      exact ⟨e1, e2, by omega, (hR.far e2 (by decide) (by decide)).2⟩
    generalize w1.heap.size = b at *
    clear HE hR hG B3 hf k2 t0 t1 t2 hm hcc hlt hcap HP
    generalize P.p = p at *
    go_wp2
    have hq := BF.out.2.1
    have hqd : w3.drew.heap[w.heap.size]? = some (.cells #[.int .i64 0, .int .i64 0, .int .i64 0, .slice none 0 0, .slice none 0 0, .slice none 0 0] 30 (0, 0)) := hq
    obtain ⟨z0, z1, z2, z3, z4, z5⟩ := ip.box6 hqd
    have zf := ip.fr6 hqd
    have f0 := zf 0; have f1 := zf 1; have f2 := zf 2; have f3 := zf 3; have f4 := zf 4; have f5 := zf 5
    have hq6 := ip.six hqd (.int .i64 0) (.int .i64 0) (.int .i64 0) (.slice none 0 0) (.slice none 0 0) (.slice none 0 0)
    have R6 := Lib.hid (ip.box6 hq6)
    have hne := ip.six_other (w := w3.drew) (g := w.heap.size) (k := b) (fun e => BF.out.2.2.1 e.symm) (.int .i64 0) (.int .i64 0) (.int .i64 0) (.slice none 0 0) (.slice none 0 0) (.slice none 0 0)
    have hng := ip.six_other (w := w3.drew) (g := w.heap.size) (k := g) (fun e => BF.out.2.2.2 e.symm) (.int .i64 0) (.int .i64 0) (.int .i64 0) (.slice none 0 0) (.slice none 0 0) (.slice none 0 0)
    have Y := Lib.hid (And.intro ((World.cell?_of_block (a := ⟨b, 0, none⟩) hne).trans k0) (And.intro ((World.cell?_of_block (a := ⟨b, 1, none⟩) hne).trans k1) ((World.cell?_of_block (a := ⟨g, 4 * p + 3, none⟩) hng).trans t3)))
    have BZ := Lib.hid (ip.six_below (show Below w.heap.size w w3.drew from ⟨BF.out.1.os, BF.out.1.tape, BF.out.1.output, BF.out.1.size, BF.out.1.block⟩) (Nat.le_refl _) (.int .i64 0) (.int .i64 0) (.int .i64 0) (.slice none 0 0) (.slice none 0 0) (.slice none 0 0))
    clear hq hqd zf hq6 hne hng BF kk1
    refine wp_region_held_drew (S := fun w' => w'.cell? ⟨b, 0, none⟩ = some (.slice (some ⟨g, 4 * p, none⟩) (m + 1) (cc + 1)) ∧ w'.cell? ⟨b, 1, none⟩ = some (.int .i64 er) ∧ w'.cell? ⟨g, 4 * p + 3, none⟩ = some (.int .i64 at_)) (by kernel_rfl) ⟨k0, k1, t3⟩ (fun hHeld => ?_)
    generalize World.drew _ = W3 at *
    refine wpAnyH_take (i := 0) (v := ?v0) (by rw [List.getElem?_toArray]; rfl) (by kernel_rfl) (by kernel_rfl) (by kernel_rfl) ?q0 (Or.inl ⟨by rfl, ?y0⟩) (by assumption) ?r0
    case q0 => exact fun _ _ _ h => h
    case y0 => (intro wz hSw; obtain ⟨s0, s1, s2⟩ := hSw; go_simp; try (with_reducible rfl))
    simp only [Act.put, List.setIfInBounds_toArray, List.set_cons_zero, List.set_cons_succ]
    refine wpAnyH_take (i := 1) (v := ?v1) (by rw [List.getElem?_toArray]; rfl) (by kernel_rfl) (by kernel_rfl) (by kernel_rfl) ?q1 (Or.inl ⟨by rfl, ?y1⟩) (by assumption) ?r1
    case q1 => exact fun _ _ _ h => h
    case y1 => (intro wz hSw; obtain ⟨s0, s1, s2⟩ := hSw; go_simp; try (with_reducible rfl))
    simp only [Act.put, List.setIfInBounds_toArray, List.set_cons_zero, List.set_cons_succ]
    refine wpAnyH_take (i := 2) (v := ?v2) (by rw [List.getElem?_toArray]; rfl) (by kernel_rfl) (by kernel_rfl) (by kernel_rfl) ?q2 (Or.inl ⟨by rfl, ?y2⟩) (by assumption) ?r2
    case q2 => exact fun _ _ _ h => h
    case y2 => (intro wz hSw; obtain ⟨s0, s1, s2⟩ := hSw; go_simp; try (with_reducible rfl))
    simp only [Act.put, List.setIfInBounds_toArray, List.set_cons_zero, List.set_cons_succ]
    refine wpAnyH_take (i := 3) (v := ?v3) (by rw [List.getElem?_toArray]; rfl) (by kernel_rfl) (by kernel_rfl) (by kernel_rfl) ?q3 (Or.inl ⟨by rfl, ?y3⟩) (by assumption) ?r3
    case q3 => exact fun _ _ _ h => h
    case y3 => (intro wz hSw; obtain ⟨s0, s1, s2⟩ := hSw; go_simp; try (with_reducible rfl))
    simp only [Act.put, List.setIfInBounds_toArray, List.set_cons_zero, List.set_cons_succ]
    refine wpAnyH_take (i := 4) (v := ?v4) (by rw [List.getElem?_toArray]; rfl) (by kernel_rfl) (by kernel_rfl) (by kernel_rfl) ?q4 (Or.inl ⟨by rfl, ?y4⟩) (by assumption) ?r4
    case q4 => exact fun _ _ _ h => h
    case y4 => (intro wz hSw; obtain ⟨s0, s1, s2⟩ := hSw; go_simp; try (with_reducible rfl))
    simp only [Act.put, List.setIfInBounds_toArray, List.set_cons_zero, List.set_cons_succ]
    refine wpAnyH_take (i := 5) (v := ?v5) (by rw [List.getElem?_toArray]; rfl) (by kernel_rfl) (by kernel_rfl) (by kernel_rfl) ?q5 (Or.inl ⟨by rfl, ?y5⟩) (by assumption) ?r5
    case q5 => exact fun _ _ _ h => h
    case y5 => (intro wz hSw; obtain ⟨s0, s1, s2⟩ := hSw; go_simp; try (with_reducible rfl))
    simp only [Act.put, List.setIfInBounds_toArray, List.set_cons_zero, List.set_cons_succ]
    refine wpAnyH_take (i := 6) (v := ?v6) (by rw [List.getElem?_toArray]; rfl) (by kernel_rfl) (by kernel_rfl) (by kernel_rfl) ?q6 (Or.inl ⟨by rfl, ?y6⟩) (by assumption) ?r6
    case q6 => exact fun _ _ _ h => h
    case y6 => (intro wz hSw; obtain ⟨s0, s1, s2⟩ := hSw; go_simp; try (with_reducible rfl))
    simp only [Act.put, List.setIfInBounds_toArray, List.set_cons_zero, List.set_cons_succ]
    refine wpAnyH_take (i := 7) (v := ?v7) (by rw [List.getElem?_toArray]; rfl) (by kernel_rfl) (by kernel_rfl) (by kernel_rfl) ?q7 (Or.inl ⟨by rfl, ?y7⟩) (by assumption) ?r7
    case q7 => exact fun _ _ _ h => h
    case y7 => (intro wz hSw; obtain ⟨s0, s1, s2⟩ := hSw; go_simp; try (with_reducible rfl))
    simp only [Act.put, List.setIfInBounds_toArray, List.set_cons_zero, List.set_cons_succ]
    refine wpAnyH_take (i := 8) (v := ?v8) (by rw [List.getElem?_toArray]; rfl) (by kernel_rfl) (by kernel_rfl) (by kernel_rfl) ?q8 (Or.inl ⟨by rfl, ?y8⟩) (by assumption) ?r8
    case q8 => exact fun _ _ _ h => h
    case y8 => (intro wz hSw; obtain ⟨s0, s1, s2⟩ := hSw; go_simp; try (with_reducible rfl))
    simp only [Act.put, List.setIfInBounds_toArray, List.set_cons_zero, List.set_cons_succ]
    refine wpAnyH_take (i := 9) (v := ?v9) (by rw [List.getElem?_toArray]; rfl) (by kernel_rfl) (by kernel_rfl) (by kernel_rfl) ?q9 (Or.inl ⟨by rfl, ?y9⟩) (by assumption) ?r9
    case q9 => exact fun _ _ _ h => h
    case y9 => (intro wz hSw; obtain ⟨s0, s1, s2⟩ := hSw; go_simp; try (with_reducible rfl))
    simp only [Act.put, List.setIfInBounds_toArray, List.set_cons_zero, List.set_cons_succ]
    refine wpAnyH_take (i := 10) (v := ?v10) (by rw [List.getElem?_toArray]; rfl) (by kernel_rfl) (by kernel_rfl) (by kernel_rfl) ?q10 (Or.inl ⟨by rfl, ?y10⟩) (by assumption) ?r10
    case q10 => exact fun _ _ _ h => h
    case y10 => (intro wz hSw; obtain ⟨s0, s1, s2⟩ := hSw; go_simp; try (with_reducible rfl))
    simp only [Act.put, List.setIfInBounds_toArray, List.set_cons_zero, List.set_cons_succ]
    refine wpAnyH_take (i := 11) (v := ?v11) (by rw [List.getElem?_toArray]; rfl) (by kernel_rfl) (by kernel_rfl) (by kernel_rfl) ?q11 (Or.inl ⟨by rfl, ?y11⟩) (by assumption) ?r11
    case q11 => exact fun _ _ _ h => h
    case y11 => (intro wz hSw; obtain ⟨s0, s1, s2⟩ := hSw; go_simp; try (with_reducible rfl))
    simp only [Act.put, List.setIfInBounds_toArray, List.set_cons_zero, List.set_cons_succ]
    refine wpAnyH_ready (rs := [12]) (by kernel_rfl) (by simp) ?_
    refine AllReadyH.cons (by rw [List.getElem?_toArray]; rfl) (fun K hK => ?_) AllReadyH.nil
    clear hHeld
    go_simp
    refine hK.out _ _ Y.out (fun hHeld => ?_)
    clear hK K Y
    refine wpAnyH_take (i := 13) (v := ?v13) (by rw [List.getElem?_toArray]; rfl) (by kernel_rfl) (by kernel_rfl) (by kernel_rfl) ?q13 (Or.inl ⟨by rfl, ?y13⟩) (by assumption) ?r13
    case q13 => exact fun _ _ _ h => h
    case y13 => (intro wz hSw; clear hSw; go_simp; try (with_reducible rfl))
    simp only [Act.put, List.setIfInBounds_toArray, List.set_cons_zero, List.set_cons_succ]
    refine wpAnyH_take (i := 14) (v := ?v14) (by rw [List.getElem?_toArray]; rfl) (by kernel_rfl) (by kernel_rfl) (by kernel_rfl) ?q14 (Or.inl ⟨by rfl, ?y14⟩) (by assumption) ?r14
    case q14 => exact fun _ _ _ h => h
    case y14 => (intro wz hSw; clear hSw; go_simp; try (with_reducible rfl))
    simp only [Act.put, List.setIfInBounds_toArray, List.set_cons_zero, List.set_cons_succ]
    refine wpAnyH_done (by kernel_rfl) ?_ _
    clear hHeld k0 k1 t3
    go_wp2
    obtain ⟨r0, r1, r2, r3, r4, r5⟩ := R6.out
    exact bodyPost_ret (v := .tuple #[.agg #[.int .i64 0, .int .i64 0, .int .i64 0, .slice none 0 0, .slice none 0 0, .slice none 0 0], .int .i64 at_, .int .i64 er]) (by simp [results, Tryz.results8, go_sem, r0, r1, r2, r3, r4, r5]) rfl ⟨rfl, BZ.out⟩
/-- what Parse answers, of every text -/
theorem parse_any (s : ByteArray) (w : World) : Calls Tryz.prog 8 #[.string s] w (PaP w (PXX s)) := by
  unfold PXX
  by_cases hs : 65536 < s.size
  · rw [if_pos hs]
    exact parse_err s 0 5 (by decide) w (Lib.hid fun W => (scan_long s hs W).mono fun e w' h => ⟨h.1, by rw [← h.2]; exact Below.refl _ _⟩)
  · rw [if_neg hs]
    unfold PX
    have H := fun W => scan_any s (by omega) W
    cases hsp : SP s 0 [] with
    | ok T =>
      rw [hsp] at H
      exact parse_toks s T (SP_toks (by omega) hsp) w (Lib.hid H)
    | bad p e =>
      rw [hsp] at H
      exact parse_err s p e (SP_bad hsp) w (Lib.hid H)
end Go.Proofs.YtegieoajjfodcaaGreatDoor
