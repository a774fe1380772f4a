/-
  A step of an act among four; Take; Best.
-/
import Derived.Test.YtpmkpmenjaekmaaIcM
namespace Go.Proofs.Ytpmkpmenjaekmaa
open Go.RowKit Go.MuLone
set_option linter.unusedVariables false
section
variable {q g b kb pw pa pc px B : Nat} {fa f : Nat → Option Nat} {cs : Nat → Int} {xs : Nat → Value} {C wh : Nat} {X : List Int} {C2 : Int} {X2 : List Int} {s : Int} {w0 w : World}
theorem Mi.stp (h : Mi q g b kb pw pa pc px B fa f cs xs C wh X C2 X2 s w0 w) {i p : Nat} {wk : Int} {xa : Value} {c nx rd : Int} {tk : Bool} (hi : i < 4) (hf : f i = some p) (ha : Ac p q wk xa c nx rd tk w) {w1 : World} (k : Tw [g, b, kb, p] w w1) {C' wh' : Nat} {X' : List Int} {s' : Int} (hst : ∃ vs, Si q g b kb 1 4 vs [0, (C' : Int) * 16 + wh', 0] s' w1 ∧ Lst (b + 1) (vs wh') X' w1) (hwh : wh' < 4) (hX : X'.length = 2) (f' : Nat → Option Nat)
    (hf' : ∀ j p2, j < 4 → f' j = some p2 → f j = some p2 ∧ (j = i → Au q b i p (cs i) (xs i) w1)) : Mi q g b kb pw pa pc px B fa f' cs xs C' wh' X' C2 X2 s' w0 w1 := by
  obtain ⟨vs, hs, _⟩ := h.st
  have hp := h.an ha
  have hn := h.ne
  have hg := h.ge
  have hB := (h.act i p hi hf).1
  have hbel : Below B w0 w1 := k.below h.bel (fun j hj => by
    simp at hj
    rcases hj with h | h | h | h
    · rw [h]; exact hg.2.1
    · rw [h]; exact hg.2.2.1
    · rw [h]; exact hg.2.2.2.1
    · rw [h]; exact hB) h.sz
  obtain ⟨xv, hw1, hw2⟩ := h.wd
  refine ⟨hst, hwh, hX, ⟨xv, blk_tw hw1 k (by simp; exact ⟨hn.1.1, hn.1.2.1, hn.1.2.2.2, fun e => hp.2.2.2.2.1 e.symm⟩), hs.lk ha hw2 k⟩, blk_tw h.ab k (by simp; exact ⟨hn.2.1.1, hn.2.1.2.1, hn.2.1.2.2.2.1, fun e => hp.2.2.2.2.2.1 e.symm⟩), blk_tw h.cb k (by simp; exact ⟨hn.2.2.1.1, hn.2.2.1.2.1, hn.2.2.1.2.2.2.1, fun e => hp.2.2.2.2.2.2.1 e.symm⟩), blk_tw h.xb k (by simp; exact ⟨hn.2.2.2.1, hn.2.2.2.2.1, hn.2.2.2.2.2.2.1, fun e => hp.2.2.2.2.2.2.2.1 e.symm⟩), fun j p2 hj hp2 => ?_, fun j j2 p2 h1 h2 h3 h4 => h.inj j j2 p2 h1 h2 (hf' j p2 h1 h3).1 (hf' j2 p2 h2 h4).1, h.ge, h.bs, hbel⟩
  obtain ⟨e1, e2⟩ := hf' j p2 hj hp2
  by_cases e : j = i
  · subst e
    rw [hf] at e1
    injection e1 with e1
    subst e1
    exact ⟨hB, e2 rfl⟩
  · obtain ⟨hb2, ha2⟩ := h.act j p2 hj e1
    obtain ⟨xa2, Y, nx2, rd2, h1, h2, h3, h4, h5⟩ := ha2.ex
    have hp2 := h.an h1
    have hne : p2 ≠ p := fun e' => e (h.inj j i p2 hj hi e1 (by rw [e']; exact hf))
    exact ⟨hb2, ⟨xa2, Y, nx2, rd2, h1.keep k (by simp; exact ⟨hp2.1, hp2.2.1, hp2.2.2.2.1, hne⟩), hs.lk ha h2 k, hs.lk ha h3 k, h4, h5⟩, ha2.c0, ha2.c1⟩
/-- what a Step of one of the acts comes to -/
def Way (f f' : Nat → Option Nat) (i : Nat) (c : Int) (C C' wh wh' : Nat) (X X' : List Int) (r tk : Bool) : Prop :=
  (r = false ∧ tk = false ∧ f' = f ∧ C' = C ∧ wh' = wh ∧ X' = X) ∨ (r = true ∧ tk = false ∧ f' = upd f i none ∧ C' = C ∧ wh' = wh ∧ X' = X ∧ (C : Int) ≤ c) ∨ (r = true ∧ tk = true ∧ f' = upd f i none ∧ (C' : Int) = c ∧ c < (C : Int))
theorem mi_step (s0 : 0 ≤ s) (s1 : s ≤ 100000) (h : Mi q g b kb pw pa pc px B fa f cs xs C wh X C2 X2 s w0 w) {i p : Nat} (hi : i < 4) (hf : f i = some p) (hC : C ≤ 999) :
    ∃ (f' : Nat → Option Nat) (C' wh' : Nat) (X' : List Int) (r tk : Bool) (xa : Value) (nx rd : Int), Way f f' i (cs i) C C' wh wh' X X' r tk ∧ C' ≤ 999 ∧ (nx == 2) = r ∧
    Calls Try.prog 14 #[.pointer (some ⟨p, 0, none⟩)] w fun e w' => e = .returned (.bool r) ∧ Ac p q i xa (cs i) nx rd tk w' ∧ Mi q g b kb pw pa pc px B fa f' cs xs C' wh' X' C2 X2 (s + 1) w0 w' ∧ (tk = true → Lst (b + 1) (xs i) X' w') := by
  obtain ⟨hB, ha⟩ := h.act i p hi hf
  obtain ⟨xa, Y, nx, rd, h1, h2, h3, h4, h5⟩ := ha.ex
  have hc0 := ha.c0
  have hc1 := ha.c1
  obtain ⟨vs, hs, hl⟩ := h.st
  have hwh := h.wh4
  have hdiv : ((C : Int) * 16 + wh) / 16 = C := by omega
  obtain ⟨cn, hcn⟩ : ∃ cn : Nat, cs i = cn := ⟨(cs i).toNat, by omega⟩
  have hdel : ∀ (w1 : World) (j p2 : Nat), j < 4 → upd f i none j = some p2 → f j = some p2 ∧ (j = i → Au q b i p (cs i) (xs i) w1) := fun w1 j p2 hj e => by
    by_cases e' : j = i
    · rw [e', upd_at] at e; cases e
    · rw [upd_ne _ _ _ _ e'] at e
      exact ⟨e, fun e2 => absurd e2 e'⟩
  rcases h5 with rfl | ⟨rfl, h5⟩
  · by_cases hle : (C : Int) ≤ cs i
    · refine ⟨upd f i none, C, wh, X, true, false, xa, 2, (C : Int) * 16 + wh, .inr (.inl ⟨rfl, rfl, rfl, rfl, rfl, rfl, hle⟩), hC, rfl, ?_⟩
      refine (step_look (nx := 2) ((C : Int) * 16 + wh) (n31 _ _ _) (by rw [hdiv, if_pos hle]) s0 (by omega) hs h1).mono ?_
      rintro e w1 ⟨rfl, hh⟩
      exact ⟨rfl, hh.ac, h.stp hi hf h1 hh.tw ⟨vs, hh.st, hs.lk h1 hl hh.tw⟩ hwh h.X2l _ (hdel w1), fun e => by cases e⟩
    · refine ⟨f, C, wh, X, false, false, xa, 1, (C : Int) * 16 + wh, .inl ⟨rfl, rfl, rfl, rfl, rfl, rfl⟩, hC, rfl, ?_⟩
      refine (step_look (nx := 1) ((C : Int) * 16 + wh) (n31 _ _ _) (by rw [hdiv, if_neg hle]) s0 (by omega) hs h1).mono ?_
      rintro e w1 ⟨rfl, hh⟩
      exact ⟨rfl, hh.ac, h.stp hi hf h1 hh.tw ⟨vs, hh.st, hs.lk h1 hl hh.tw⟩ hwh h.X2l _ (fun j p2 hj e => ⟨e, fun _ => ⟨⟨xa, Y, 1, _, hh.ac, hs.lk h1 h2 hh.tw, hs.lk h1 h3 hh.tw, h4, .inr ⟨rfl, by rw [hdiv]; omega⟩⟩, hc0, hc1⟩⟩), fun e => by cases e⟩
  · by_cases hN : (C : Int) * 16 + wh = rd
    · have hlt : cs i < (C : Int) := by rw [← hN, hdiv] at h5; exact h5
      refine ⟨upd f i none, cn, i, Y, true, true, xa, 2, rd, .inr (.inr ⟨rfl, rfl, rfl, hcn.symm, hlt⟩), by omega, rfl, ?_⟩
      have := step_swap ((C : Int) * 16 + wh) cn i true h2.form hcn (by omega) rfl (by omega) (n31 _ _ _) (decide_eq_true hN) s0 (by omega) hs h1
      rw [swl_yes _ _ _ _ (by rw [n31]; exact hN), show [(0 : Int), (C : Int) * 16 + wh, 0].set 1 ((cn : Int) * 16 + i) = [0, (cn : Int) * 16 + i, 0] from rfl] at this
      refine this.mono ?_
      rintro e w1 ⟨rfl, hh⟩
      refine ⟨rfl, hh.ac, h.stp hi hf h1 hh.tw ⟨upk vs i xa, hh.st, ?_⟩ hi h4 _ (hdel w1), fun _ => hs.lk h1 h3 hh.tw⟩
      rw [show upk vs i xa i = xa from if_pos rfl]
      exact hs.lk h1 h2 hh.tw
    · refine ⟨f, C, wh, X, false, false, xa, 0, rd, .inl ⟨rfl, rfl, rfl, rfl, rfl, rfl⟩, hC, rfl, ?_⟩
      have := step_swap ((C : Int) * 16 + wh) cn i false h2.form hcn (by omega) rfl (by omega) (n31 _ _ _) (decide_eq_false hN) s0 (by omega) hs h1
      rw [swl_no _ _ _ _ (by rw [n31]; exact hN)] at this
      refine this.mono ?_
      rintro e w1 ⟨rfl, hh⟩
      exact ⟨rfl, hh.ac, h.stp hi hf h1 hh.tw ⟨vs, hh.st, hs.lk h1 hl hh.tw⟩ hwh h.X2l _ (fun j p2 hj e => ⟨e, fun _ => ⟨⟨xa, Y, 0, _, hh.ac, hs.lk h1 h2 hh.tw, hs.lk h1 h3 hh.tw, h4, .inl rfl⟩, hc0, hc1⟩⟩), fun e => by cases e⟩
theorem mi_best (h : Mi q g b kb pw pa pc px B fa f cs xs C wh X C2 X2 s w0 w) : Calls Try.prog 9 #[.pointer (some ⟨q, 0, none⟩)] w fun e w' => ∃ gv cap, e = .returned (.tuple #[.slice (some ⟨gv, 0, none⟩) 2 cap, .int .i64 C]) ∧ w.heap.size ≤ gv ∧ Lst (b + 1) (.slice (some ⟨gv, 0, none⟩) 2 cap) X w' ∧ Mi q g b kb pw pa pc px B fa f cs xs C wh X C2 X2 s w0 w' ∧ (2 : Nat) ≤ cap ∧ (∃ v, w'.cell? ⟨gv, 0, none⟩ = some v) ∧ w'.frozen? ⟨gv, 0, none⟩ = false ∧ Tw [g, b] w w' := by
  obtain ⟨vs, h1, h2⟩ := h.st
  have hwh := h.wh4
  have hX := h.X2l
  have hlt := h.lts
  have hx : ∀ vs', Si q g b kb 1 4 vs' [0, (C : Int) * 16 + wh, 0] s w → ∀ j, j < 4 → vs' j = vs j := fun vs' h' j hj => by
    have e1 := (h1.kc j hj).1
    have e2 := (h'.kc j hj).1
    rw [e1] at e2
    injection e2 with e2
    exact e2.symm
  have := best_any (b + 1) wh X (by omega) (by rw [n31]; omega) (by omega) (by omega) h1 h2
  rw [n31, show ((C : Int) * 16 + wh) / 16 = C by omega] at this
  refine this.mono ?_
  rintro e w1 ⟨v', rfl, hl, f1, f2⟩
  have hl2 := hl
  rcases hl with ⟨_, rfl⟩ | ⟨gv, cap, cur, rfl, g1, g2, g3, g4, g5⟩
  · simp at hX
  · refine ⟨gv, cap, by rw [hX], g1, by rw [hX] at hl2; exact hl2.mono (by omega), h.mem f2 (fun vs' h' => ⟨f1.box, ?_, f1.len, f1.len2, f1.n1, f1.n16, f1.mem⟩), by omega, ⟨_, g5 0 (by omega)⟩, by simp [World.frozen?, g4], f2⟩
    obtain ⟨K, k1, k2, k3⟩ := f1.kep
    exact ⟨K, k1, k2, fun j hj => by rw [hx vs' h' j hj]; exact k3 j hj⟩
theorem Mi.cells (h : Mi q g b kb pw pa pc px B fa f cs xs C wh X C2 X2 s w0 w) : w.cell? ⟨pw, 0, none⟩ = some (.int .i64 C2) ∧ (∀ j, w.frozen? ⟨pa, j, none⟩ = false ∧ w.frozen? ⟨pc, j, none⟩ = false ∧ w.frozen? ⟨px, j, none⟩ = false ∧ w.frozen? ⟨pw, j, none⟩ = false) ∧ (∀ i, i < 4 → w.cell? ⟨pa, i, none⟩ = some (ptr (fa i)) ∧ w.cell? ⟨pc, i, none⟩ = some (.int .i64 (cs i)) ∧ w.cell? ⟨px, i, none⟩ = some (xs i)) ∧ ∃ xv, w.cell? ⟨pw, 1, none⟩ = some xv ∧ Lst (b + 1) xv X2 w := by
  have h1 := h.ab
  have h2 := h.cb
  have h3 := h.xb
  obtain ⟨xv, h4, h5⟩ := h.wd
  refine ⟨(cell_of_row w pw 0 _ 45 _ h4).trans rfl, fun j => ⟨by simp [World.frozen?, h1], by simp [World.frozen?, h2], by simp [World.frozen?, h3], by simp [World.frozen?, h4]⟩, fun i hi => ?_, xv, (cell_of_row w pw 1 _ 45 _ h4).trans rfl, h5⟩
  rw [cell_of_row w pa i _ 47 _ h1, cell_of_row w pc i _ 48 _ h2, cell_of_row w px i _ 49 _ h3]
  rcases (by omega : i = 0 ∨ i = 1 ∨ i = 2 ∨ i = 3) with rfl | rfl | rfl | rfl <;> exact ⟨rfl, rfl, rfl⟩
end
set_option maxHeartbeats 2000000 in
theorem take_any (pw B : Nat) (v : Value) (X : List Int) (c c0 : Int) (xv : Value) (hX : X.length = 2) (w : World) (h : w.heap[pw]? = some (.cells #[.int .i64 c0, xv] 45 (0, 0))) (hL : Lst B v X w) :
    Calls Try.prog 18 #[.pointer (some ⟨pw, 0, none⟩), v, .int .i64 c] w fun e w' => e = .returned (.tuple #[]) ∧ ∃ v', w'.heap[pw]? = some (.cells #[.int .i64 c, v'] 45 (0, 0)) ∧ Lst w.heap.size v' X w' ∧ Tw [pw] w w' := by
  rcases hL with ⟨_, rfl⟩ | ⟨b, cp, cur, rfl, g1, g2, g3, g4, g5⟩
  · simp at hX
  have hb := lt_hp g4
  have hpb : pw ≠ b := blk_ty h g4 (by decide)
  obtain ⟨i0, hi, hz0, hz1, hz2⟩ := info_parts info3
  have ho := own0 w
  have HNs := Lib.hid (app_src (o := 0) hb (by simpa using g5))
  have HOf := Lib.hid (fun (w1 : World) (g cap : Nat) h1 h2 => own_of (w := w) (w1 := w1) (g := g) (cap := cap) (l := X) h1 h2)
  have HP := Lib.hid h
  have LP := lt_hp h
  have hmx := X.length
  have hl2 : X.length ≤ 1000 := by omega
  clear g5 hX
  generalize hn : X.length = n at *
  have HN := Lib.hid hn
  clear hn hmx
  go_enter Try.func18, Try.ntmps18
  go_wp2_with (at_builtin; refine wpList_append_own _ rfl _ _ 29 rfl w.heap.size 3 i0 (.int .i64 0) 1 8 Try.underlying29 hi hz0 hz1 hz2 rfl (by decide) _ _ _ rfl ho ⟨b, 0, none⟩ _ cp (X.map (Value.int .i64)) rfl (by simp [HN.out]) HNs.out (by simp [Value.oneCell']) (by unfold maxLen; omega) (by omega) (by simp) ?_)
  intro v' w1 hown hgrow hne
  obtain ⟨g, cap, rfl⟩ := own_form hown hne
  have HB := Lib.hid ((bl_al (Below.refl _ _) _).grown hgrow (by simp) (fun j hj => by simp [Value.ownBlock] at hj; omega) : Below w.heap.size w w1)
  have HO := Lib.hid hown
  clear hgrow hown hne ho HNs
  have e1 := (HB.out.block pw LP).trans HP.out
  have E1 := Lib.hid e1
  have c0 := (cell_of_row w1 pw 0 _ 45 _ e1).trans rfl
  have c1 := (cell_of_row w1 pw 1 _ 45 _ e1).trans rfl
  have fz : ∀ j, w1.frozen? ⟨pw, j, none⟩ = false := fun j => by simp [World.frozen?, e1]
  have LPh := Lib.hid LP
  clear e1 h g4 LP
  go_wp2
  go_end0
  have ol : Lst w.heap.size (.slice (some ⟨g, 0, none⟩) n cap) X w1 := by
    have h1 : Own w.heap.size g n cap X w w1 := by
      refine HOf.out w1 g cap ?_ HB.out
      simpa using HO.out
    exact h1.lst
  have k : Tw [pw] w1 ((w1.setCell ⟨pw, 1, none⟩ (.slice (some ⟨g, 0, none⟩) n cap)).setCell ⟨pw, 0, none⟩ (.int .i64 c)) := ((Tw.refl [pw] w1).st pw (.inl (by simp)) 1 _).st pw (.inl (by simp)) 0 _
  exact ⟨rfl, _, (blk_set (blk_set E1.out 1 (.slice (some ⟨g, 0, none⟩) n cap)) 0 (.int .i64 c)).trans rfl, ol.keep3 k (fun j hj => by simp at hj; subst hj; exact .inl LPh.out), (Tw.of (S := [pw]) HB.out).trans k⟩
end Go.Proofs.Ytpmkpmenjaekmaa
