/-
  What IncMixed keeps: an incumbent, the reference's world, four acts, their costs and lists.
-/
import Derived.Test.YtpmkpmenjaekmaaIcE
namespace Go.Proofs.Ytpmkpmenjaekmaa
open Go.RowKit Go.MuLone
set_option linter.unusedVariables false
/-- a pointer to an act, or none -/
def ptr : Option Nat → Value
  | none => .pointer none
  | some p => .pointer (some ⟨p, 0, none⟩)
/-- an act under way -/
structure Au (q b i : Nat) (p : Nat) (c : Int) (xv : Value) (w : World) : Prop where
  ex : ∃ xa Y nx rd, Ac p q i xa c nx rd false w ∧ Lst (b + 1) xa Y w ∧ Lst (b + 1) xv Y w ∧ Y.length = 2 ∧ (nx = 0 ∨ (nx = 1 ∧ c < rd / 16))
  c0 : 0 ≤ c
  c1 : c ≤ 999
structure Mi (q g b kb pw pa pc px B : Nat) (fa f : Nat → Option Nat) (cs : Nat → Int) (xs : Nat → Value) (C wh : Nat) (X : List Int) (C2 : Int) (X2 : List Int) (s : Int) (w0 w : World) : Prop where
  st : ∃ vs, Si q g b kb 1 4 vs [0, (C : Int) * 16 + wh, 0] s w ∧ Lst (b + 1) (vs wh) X w
  wh4 : wh < 4
  X2l : X.length = 2
  wd : ∃ xv, w.heap[pw]? = some (.cells #[.int .i64 C2, xv] 45 (0, 0)) ∧ Lst (b + 1) xv X2 w
  ab : w.heap[pa]? = some (.cells #[ptr (fa 0), ptr (fa 1), ptr (fa 2), ptr (fa 3)] 47 (0, 0))
  cb : w.heap[pc]? = some (.cells #[.int .i64 (cs 0), .int .i64 (cs 1), .int .i64 (cs 2), .int .i64 (cs 3)] 48 (0, 0))
  xb : w.heap[px]? = some (.cells #[xs 0, xs 1, xs 2, xs 3] 49 (0, 0))
  act : ∀ i p, i < 4 → f i = some p → B ≤ p ∧ Au q b i p (cs i) (xs i) w
  inj : ∀ i j p, i < 4 → j < 4 → f i = some p → f j = some p → i = j
  ge : B ≤ q ∧ B ≤ g ∧ B ≤ b ∧ B ≤ kb ∧ B ≤ pw ∧ B ≤ pa ∧ B ≤ pc ∧ B ≤ px
  bs : B = w0.heap.size
  bel : Below B w0 w
theorem Lst.keep3 {B : Nat} {v : Value} {l : List Int} {S : List Nat} {w w1 : World} (h : Lst B v l w) (k : Tw S w w1) (hS : ∀ i, i ∈ S → i < B ∨ w.heap.size ≤ i ∨ ∃ c t, w.heap[i]? = some (.cells c t (0, 0)) ∧ t ≠ 3) : Lst B v l w1 := by
  rcases h with h | ⟨g, cap, cur, h1, h2, h3, h4, h5, h6⟩
  · exact .inl h
  · have hg : g ∉ S := fun hm => by
      rcases hS g hm with h | h | ⟨c, t, hc, ht⟩
      · omega
      · have := lt_hp h5; omega
      · rw [h5] at hc
        injection hc with hc
        injection hc with _ hc _
        exact ht hc.symm
    exact .inr ⟨g, cap, cur, h1, h2, h3, h4, blk_tw h5 k hg, fun j hj => (cell_tw k (lt_hp h5) hg j).trans (h6 j hj)⟩
section
variable {q g b kb pw pa pc px B : Nat} {fa f : Nat → Option Nat} {cs : Nat → Int} {xs : Nat → Value} {C wh : Nat} {X : List Int} {C2 : Int} {X2 : List Int} {s : Int} {w0 w : World}
theorem Mi.sz (h : Mi q g b kb pw pa pc px B fa f cs xs C wh X C2 X2 s w0 w) : B ≤ w.heap.size := by have := h.bel.size; have := h.bs; omega
/-- the types of the blocks: they are apart from one another -/
theorem Mi.ty (h : Mi q g b kb pw pa pc px B fa f cs xs C wh X C2 X2 s w0 w) : (∃ c t, w.heap[g]? = some (.cells c t (0, 0)) ∧ t ≠ 3) ∧ (∃ c t, w.heap[kb]? = some (.cells c t (0, 0)) ∧ t ≠ 3) ∧ (∃ c t, w.heap[pw]? = some (.cells c t (0, 0)) ∧ t ≠ 3) ∧ (∃ c t, w.heap[pa]? = some (.cells c t (0, 0)) ∧ t ≠ 3) ∧ (∃ c t, w.heap[pc]? = some (.cells c t (0, 0)) ∧ t ≠ 3) ∧ (∃ c t, w.heap[px]? = some (.cells c t (0, 0)) ∧ t ≠ 3) := by
  obtain ⟨vs, hs, _⟩ := h.st
  obtain ⟨k, c, o, m, d, hm⟩ := hs.mem
  obtain ⟨K, hK, _⟩ := hs.kep
  obtain ⟨xv, hw, _⟩ := h.wd
  exact ⟨⟨_, _, hm.1, by decide⟩, ⟨_, _, hK, by decide⟩, ⟨_, _, hw, by decide⟩, ⟨_, _, h.ab, by decide⟩, ⟨_, _, h.cb, by decide⟩, ⟨_, _, h.xb, by decide⟩⟩
theorem Mi.ne (h : Mi q g b kb pw pa pc px B fa f cs xs C wh X C2 X2 s w0 w) : (pw ≠ g ∧ pw ≠ b ∧ pw ≠ q ∧ pw ≠ kb) ∧ (pa ≠ g ∧ pa ≠ b ∧ pa ≠ q ∧ pa ≠ kb ∧ pa ≠ pw) ∧ (pc ≠ g ∧ pc ≠ b ∧ pc ≠ q ∧ pc ≠ kb ∧ pc ≠ pw ∧ pc ≠ pa) ∧ (px ≠ g ∧ px ≠ b ∧ px ≠ q ∧ px ≠ kb ∧ px ≠ pw ∧ px ≠ pa ∧ px ≠ pc) := by
  obtain ⟨vs, hs, _⟩ := h.st
  obtain ⟨k, c, o, m, d, hm⟩ := hs.mem
  obtain ⟨K, hK, _⟩ := hs.kep
  obtain ⟨xv, hw, _⟩ := h.wd
  have ha := h.ab
  have hc := h.cb
  have hx := h.xb
  have hq := hs.box
  have h1 := hm.1
  have h2 := hm.2
  refine ⟨⟨?_, ?_, ?_, ?_⟩, ⟨?_, ?_, ?_, ?_, ?_⟩, ⟨?_, ?_, ?_, ?_, ?_, ?_⟩, ?_, ?_, ?_, ?_, ?_, ?_, ?_⟩ <;> first
    | exact blk_ty hw h1 (by decide) | exact blk_ty hw h2 (by decide) | exact blk_ty hw hq (by decide) | exact blk_ty hw hK (by decide)
    | exact blk_ty ha h1 (by decide) | exact blk_ty ha h2 (by decide) | exact blk_ty ha hq (by decide) | exact blk_ty ha hK (by decide) | exact blk_ty ha hw (by decide)
    | exact blk_ty hc h1 (by decide) | exact blk_ty hc h2 (by decide) | exact blk_ty hc hq (by decide) | exact blk_ty hc hK (by decide) | exact blk_ty hc hw (by decide) | exact blk_ty hc ha (by decide)
    | exact blk_ty hx h1 (by decide) | exact blk_ty hx h2 (by decide) | exact blk_ty hx hq (by decide) | exact blk_ty hx hK (by decide) | exact blk_ty hx hw (by decide) | exact blk_ty hx ha (by decide) | exact blk_ty hx hc (by decide)
theorem Mi.an (h : Mi q g b kb pw pa pc px B fa f cs xs C wh X C2 X2 s w0 w) {p : Nat} {wk : Int} {xv : Value} {c nx rd : Int} {tk : Bool} (ha : Ac p q wk xv c nx rd tk w) : p ≠ g ∧ p ≠ b ∧ p ≠ q ∧ p ≠ kb ∧ p ≠ pw ∧ p ≠ pa ∧ p ≠ pc ∧ p ≠ px ∧ p < w.heap.size := by
  obtain ⟨vs, hs, _⟩ := h.st
  obtain ⟨xv, hw, _⟩ := h.wd
  have h1 := ha.ne hs
  exact ⟨h1.1, h1.2.1, h1.2.2.1, h1.2.2.2, blk_ty ha hw (by decide), blk_ty ha h.ab (by decide), blk_ty ha h.cb (by decide), blk_ty ha h.xb (by decide), lt_hp ha⟩
theorem Mi.lts (h : Mi q g b kb pw pa pc px B fa f cs xs C wh X C2 X2 s w0 w) : q < w.heap.size ∧ g < w.heap.size ∧ b < w.heap.size ∧ kb < w.heap.size ∧ pw < w.heap.size ∧ pa < w.heap.size ∧ pc < w.heap.size ∧ px < w.heap.size := by
  obtain ⟨vs, hs, _⟩ := h.st
  obtain ⟨xv, hw, _⟩ := h.wd
  have := hs.lt
  exact ⟨this.1, this.2.2.1, this.2.2.2, this.2.1, lt_hp hw, lt_hp h.ab, lt_hp h.cb, lt_hp h.xb⟩
/-- what an act has stays, where only the memory's blocks and new ones turn -/
theorem Au.tw {i p : Nat} {c : Int} {xv : Value} {S : List Nat} {w1 : World} (h : Au q b i p c xv w) (k : Tw S w w1) (hp : p ∉ S) (hS : ∀ j, j ∈ S → j < b + 1 ∨ w.heap.size ≤ j ∨ ∃ c t, w.heap[j]? = some (.cells c t (0, 0)) ∧ t ≠ 3) : Au q b i p c xv w1 := by
  obtain ⟨xa, Y, nx, rd, h1, h2, h3, h4, h5⟩ := h.ex
  exact ⟨⟨xa, Y, nx, rd, h1.keep k hp, h2.keep3 k hS, h3.keep3 k hS, h4, h5⟩, h.c0, h.c1⟩
/-- the memory was used, new blocks were made and written -/
theorem Mi.tw (h : Mi q g b kb pw pa pc px B fa f cs xs C wh X C2 X2 s w0 w) {S : List Nat} {s1 : Int} {w1 : World} (k : Tw S w w1) (hS : ∀ j, j ∈ S → j = g ∨ j = b ∨ w.heap.size ≤ j) (hs : ∀ vs, Si q g b kb 1 4 vs [0, (C : Int) * 16 + wh, 0] s w → Si q g b kb 1 4 vs [0, (C : Int) * 16 + wh, 0] s1 w1) : Mi q g b kb pw pa pc px B fa f cs xs C wh X C2 X2 s1 w0 w1 := by
  have hl := h.lts
  have hn := h.ne
  have hS2 : ∀ j, j ∈ S → j < b + 1 ∨ w.heap.size ≤ j ∨ ∃ c t, w.heap[j]? = some (.cells c t (0, 0)) ∧ t ≠ 3 := fun j hj => by
    rcases hS j hj with h1 | h1 | h2
    · subst h1; exact .inr (.inr h.ty.1)
    · subst h1; exact .inl (Nat.lt_succ_self _)
    · exact .inr (.inl h2)
  have out : ∀ x, x < w.heap.size → x ≠ g → x ≠ b → x ∉ S := fun x h1 h2 h3 h4 => by
    rcases hS x h4 with h | h | h
    · exact h2 h
    · exact h3 h
    · exact absurd h1 (Nat.not_lt.2 h)
  obtain ⟨vs, h1, h2⟩ := h.st
  obtain ⟨xv, h3, h4⟩ := h.wd
  have hbel : Below B w0 w1 := k.below h.bel (fun j hj => by
    have hg := h.ge
    have hz := h.sz
    rcases hS j hj with h | h | h
    · rw [h]; exact hg.2.1
    · rw [h]; exact hg.2.2.1
    · exact Nat.le_trans hz h) h.sz
  have e1 := blk_tw h3 k (out _ hl.2.2.2.2.1 hn.1.1 hn.1.2.1)
  have e2 := blk_tw h.ab k (out _ hl.2.2.2.2.2.1 hn.2.1.1 hn.2.1.2.1)
  have e3 := blk_tw h.cb k (out _ hl.2.2.2.2.2.2.1 hn.2.2.1.1 hn.2.2.1.2.1)
  have e4 := blk_tw h.xb k (out _ hl.2.2.2.2.2.2.2 hn.2.2.2.1 hn.2.2.2.2.1)
  have hact : ∀ i p, i < 4 → f i = some p → B ≤ p ∧ Au q b i p (cs i) (xs i) w1 := fun i p hi hp => by
    obtain ⟨hb, ha⟩ := h.act i p hi hp
    have ha' := ha
    obtain ⟨xa, Y, nx, rd, ha1, _⟩ := ha.ex
    have hp := h.an ha1
    exact ⟨hb, ha'.tw k (out _ hp.2.2.2.2.2.2.2.2 hp.1 hp.2.1) hS2⟩
  exact ⟨⟨vs, hs vs h1, h2.keep3 k hS2⟩, h.wh4, h.X2l, ⟨xv, e1, h4.keep3 k hS2⟩, e2, e3, e4, hact, h.inj, h.ge, h.bs, hbel⟩
theorem Mi.up (h : Mi q g b kb pw pa pc px B fa f cs xs C wh X C2 X2 s w0 w) {w1 : World} (k : Below w.heap.size w w1) : Mi q g b kb pw pa pc px B fa f cs xs C wh X C2 X2 s w0 w1 :=
  h.tw (Tw.of (S := []) k) (by simp) (fun vs hs => hs.up k)
theorem Mi.mem (h : Mi q g b kb pw pa pc px B fa f cs xs C wh X C2 X2 s w0 w) {s1 : Int} {w1 : World} (k : Tw [g, b] w w1) (hs : ∀ vs, Si q g b kb 1 4 vs [0, (C : Int) * 16 + wh, 0] s w → Si q g b kb 1 4 vs [0, (C : Int) * 16 + wh, 0] s1 w1) : Mi q g b kb pw pa pc px B fa f cs xs C wh X C2 X2 s1 w0 w1 :=
  h.tw k (fun j hj => by simp at hj; rcases hj with h | h; exact .inl h; exact .inr (.inl h)) hs
theorem mi_steps (h : Mi q g b kb pw pa pc px B fa f cs xs C wh X C2 X2 s w0 w) : Calls Try.prog 19 #[.pointer (some ⟨g, 0, none⟩)] w fun e w' => e = .returned (.int .i64 s) ∧ Mi q g b kb pw pa pc px B fa f cs xs C wh X C2 X2 s w0 w' ∧ Tw [g, b] w w' := by
  obtain ⟨vs, h1, h2⟩ := h.st
  have hx : ∀ vs', Si q g b kb 1 4 vs' [0, (C : Int) * 16 + wh, 0] s w → ∀ j, j < 4 → vs' j = vs j := fun vs' h' j hj => by
    have e1 := (h1.kc j hj).1
    have e2 := (h'.kc j hj).1
    rw [e1] at e2
    injection e2 with e2
    exact e2.symm
  refine (stepsS h1).mono ?_
  rintro e w1 ⟨rfl, f1, f2⟩
  refine ⟨rfl, h.mem f2 (fun vs' h' => ⟨f1.box, ?_, f1.len, f1.len2, f1.n1, f1.n16, f1.mem⟩), f2⟩
  obtain ⟨K, k1, k2, k3⟩ := f1.kep
  exact ⟨K, k1, k2, fun j hj => by rw [hx vs' h' j hj]; exact k3 j hj⟩
/-- what of the acts stays -/
def Sub (f' f : Nat → Option Nat) (cs' cs : Nat → Int) (xs' xs : Nat → Value) : Prop := ∀ i p, i < 4 → f' i = some p → f i = some p ∧ cs' i = cs i ∧ xs' i = xs i
theorem Mi.gen (h : Mi q g b kb pw pa pc px B fa f cs xs C wh X C2 X2 s w0 w) {S : List Nat} {w1 : World} (k : Tw S w w1) (hS : ∀ j, j ∈ S → j = g ∨ j = b ∨ j = pw ∨ j = pa ∨ j = pc ∨ j = px ∨ w.heap.size ≤ j)
    {fa' f' : Nat → Option Nat} {cs' : Nat → Int} {xs' : Nat → Value} {C' wh' : Nat} {X' : List Int} {C2' : Int} {X2' : List Int} {s' : Int} (hsub : Sub f' f cs' cs xs' xs)
    (hst : ∃ vs, Si q g b kb 1 4 vs [0, (C' : Int) * 16 + wh', 0] s' w1 ∧ Lst (b + 1) (vs wh') X' w1) (hwh : wh' < 4) (hX : X'.length = 2)
    (hwd : ∃ xv, w1.heap[pw]? = some (.cells #[.int .i64 C2', xv] 45 (0, 0)) ∧ Lst (b + 1) xv X2' w1)
    (hab : w1.heap[pa]? = some (.cells #[ptr (fa' 0), ptr (fa' 1), ptr (fa' 2), ptr (fa' 3)] 47 (0, 0)))
    (hcb : w1.heap[pc]? = some (.cells #[.int .i64 (cs' 0), .int .i64 (cs' 1), .int .i64 (cs' 2), .int .i64 (cs' 3)] 48 (0, 0)))
    (hxb : w1.heap[px]? = some (.cells #[xs' 0, xs' 1, xs' 2, xs' 3] 49 (0, 0))) : Mi q g b kb pw pa pc px B fa' f' cs' xs' C' wh' X' C2' X2' s' w0 w1 := by
  have hS2 : ∀ j, j ∈ S → j < b + 1 ∨ w.heap.size ≤ j ∨ ∃ c t, w.heap[j]? = some (.cells c t (0, 0)) ∧ t ≠ 3 := fun j hj => by
    rcases hS j hj with h1 | h1 | h1 | h1 | h1 | h1 | h2
    · subst h1; exact .inr (.inr h.ty.1)
    · subst h1; exact .inl (Nat.lt_succ_self _)
    · subst h1; exact .inr (.inr h.ty.2.2.1)
    · subst h1; exact .inr (.inr h.ty.2.2.2.1)
    · subst h1; exact .inr (.inr h.ty.2.2.2.2.1)
    · subst h1; exact .inr (.inr h.ty.2.2.2.2.2)
    · exact .inr (.inl h2)
  have hg := h.ge
  have hz := h.sz
  have hbel : Below B w0 w1 := k.below h.bel (fun j hj => by
    rcases hS j hj with h | h | h | h | h | h | h
    · rw [h]; exact hg.2.1
    · rw [h]; exact hg.2.2.1
    · rw [h]; exact hg.2.2.2.2.1
    · rw [h]; exact hg.2.2.2.2.2.1
    · rw [h]; exact hg.2.2.2.2.2.2.1
    · rw [h]; exact hg.2.2.2.2.2.2.2
    · exact Nat.le_trans hz h) h.sz
  refine ⟨hst, hwh, hX, hwd, hab, hcb, hxb, fun i p hi hp => ?_, fun i j p hi hj h1 h2 => h.inj i j p hi hj (hsub i p hi h1).1 (hsub j p hj h2).1, h.ge, h.bs, hbel⟩
  obtain ⟨e1, e2, e3⟩ := hsub i p hi hp
  obtain ⟨hb, ha⟩ := h.act i p hi e1
  have ha' := ha
  obtain ⟨xa, Y, nx, rd, ha1, _⟩ := ha.ex
  have hp := h.an ha1
  rw [e2, e3]
  refine ⟨hb, ha'.tw k (fun hm => ?_) hS2⟩
  rcases hS p hm with h | h | h | h | h | h | h
  · exact hp.1 h
  · exact hp.2.1 h
  · exact hp.2.2.2.2.1 h
  · exact hp.2.2.2.2.2.1 h
  · exact hp.2.2.2.2.2.2.1 h
  · exact hp.2.2.2.2.2.2.2.1 h
  · exact absurd hp.2.2.2.2.2.2.2.2 (Nat.not_lt.2 h)
theorem Mi.stk (h : Mi q g b kb pw pa pc px B fa f cs xs C wh X C2 X2 s w0 w) {S : List Nat} {w1 : World} (k : Tw S w w1) (hS : ∀ j, j ∈ S → j = pw ∨ j = pa ∨ j = pc ∨ j = px ∨ w.heap.size ≤ j) : ∃ vs, Si q g b kb 1 4 vs [0, (C : Int) * 16 + wh, 0] s w1 ∧ Lst (b + 1) (vs wh) X w1 := by
  obtain ⟨vs, h1, h2⟩ := h.st
  have hn := h.ne
  have hl := h.lts
  have aw : ∀ x, x < w.heap.size → pw ≠ x → pa ≠ x → pc ≠ x → px ≠ x → x ∉ S := fun x h0 h1 h2 h3 h4 hm => by
    rcases hS x hm with h | h | h | h | h
    · exact h1 h.symm
    · exact h2 h.symm
    · exact h3 h.symm
    · exact h4 h.symm
    · exact absurd h0 (Nat.not_lt.2 h)
  refine ⟨vs, h1.keep k (aw _ hl.1 hn.1.2.2.1 hn.2.1.2.2.1 hn.2.2.1.2.2.1 hn.2.2.2.2.2.1) (aw _ hl.2.1 hn.1.1 hn.2.1.1 hn.2.2.1.1 hn.2.2.2.1) (aw _ hl.2.2.1 hn.1.2.1 hn.2.1.2.1 hn.2.2.1.2.1 hn.2.2.2.2.1) (aw _ hl.2.2.2.1 hn.1.2.2.2 hn.2.1.2.2.2.1 hn.2.2.1.2.2.2.1 hn.2.2.2.2.2.2.1), h2.keep3 k (fun j hj => ?_)⟩
  rcases hS j hj with h1 | h1 | h1 | h1 | h2
  · subst h1; exact .inr (.inr h.ty.2.2.1)
  · subst h1; exact .inr (.inr h.ty.2.2.2.1)
  · subst h1; exact .inr (.inr h.ty.2.2.2.2.1)
  · subst h1; exact .inr (.inr h.ty.2.2.2.2.2)
  · exact .inr (.inl h2)
theorem Mi.wdk (h : Mi q g b kb pw pa pc px B fa f cs xs C wh X C2 X2 s w0 w) {S : List Nat} {w1 : World} (k : Tw S w w1) (hp : pw ∉ S) (hS : ∀ j, j ∈ S → j = pa ∨ j = pc ∨ j = px ∨ w.heap.size ≤ j) : ∃ xv, w1.heap[pw]? = some (.cells #[.int .i64 C2, xv] 45 (0, 0)) ∧ Lst (b + 1) xv X2 w1 := by
  obtain ⟨xv, h1, h2⟩ := h.wd
  refine ⟨xv, blk_tw h1 k hp, h2.keep3 k (fun j hj => ?_)⟩
  rcases hS j hj with h1 | h1 | h1 | h2
  · subst h1; exact .inr (.inr h.ty.2.2.2.1)
  · subst h1; exact .inr (.inr h.ty.2.2.2.2.1)
  · subst h1; exact .inr (.inr h.ty.2.2.2.2.2)
  · exact .inr (.inl h2)
def upd {A : Type} (f : Nat → A) (n : Nat) (x : A) : Nat → A := fun i => if i = n then x else f i
theorem upd_at {A : Type} (f : Nat → A) (n : Nat) (x : A) : upd f n x n = x := if_pos rfl
theorem upd_ne {A : Type} (f : Nat → A) (n : Nat) (x : A) (i : Nat) (h : i ≠ n) : upd f n x i = f i := if_neg h
theorem row_set {A : Type} (F : A → Value) (f : Nat → A) (n : Nat) (x : A) (hn : n < 4) : (#[F (f 0), F (f 1), F (f 2), F (f 3)] : Array Value).setIfInBounds n (F x) = #[F (upd f n x 0), F (upd f n x 1), F (upd f n x 2), F (upd f n x 3)] := by
  rcases (by omega : n = 0 ∨ n = 1 ∨ n = 2 ∨ n = 3) with rfl | rfl | rfl | rfl <;> rfl
theorem Mi.sc (h : Mi q g b kb pw pa pc px B fa f cs xs C wh X C2 X2 s w0 w) (i : Nat) (hi : i < 4) (hf : f i = none) (c : Int) : Mi q g b kb pw pa pc px B fa f (upd cs i c) xs C wh X C2 X2 s w0 (w.setCell ⟨pc, i, none⟩ (.int .i64 c)) := by
  have k : Tw [pc] w (w.setCell ⟨pc, i, none⟩ (.int .i64 c)) := (Tw.refl [pc] w).st pc (.inl (by simp)) i _
  have hn := h.ne
  refine h.gen k (by simp) (fun j p hj hp => ⟨hp, upd_ne _ _ _ _ (fun e => by rw [e, hf] at hp; cases hp), rfl⟩) (h.stk k (by simp)) h.wh4 h.X2l (h.wdk k (by simp; exact fun e => hn.2.2.1.2.2.2.2.1 e.symm) (by simp)) (blk_tw h.ab k (by simp; exact fun e => hn.2.2.1.2.2.2.2.2 e.symm)) ?_ (blk_tw h.xb k (by simp; exact hn.2.2.2.2.2.2.2.2.2))
  rw [← row_set (fun z => Value.int .i64 z) cs i c hi]
  exact blk_set h.cb i _
theorem Mi.sx (h : Mi q g b kb pw pa pc px B fa f cs xs C wh X C2 X2 s w0 w) (i : Nat) (hi : i < 4) (hf : f i = none) (v : Value) : Mi q g b kb pw pa pc px B fa f cs (upd xs i v) C wh X C2 X2 s w0 (w.setCell ⟨px, i, none⟩ v) := by
  have k : Tw [px] w (w.setCell ⟨px, i, none⟩ v) := (Tw.refl [px] w).st px (.inl (by simp)) i _
  have hn := h.ne
  refine h.gen k (by simp) (fun j p hj hp => ⟨hp, rfl, upd_ne _ _ _ _ (fun e => by rw [e, hf] at hp; cases hp)⟩) (h.stk k (by simp)) h.wh4 h.X2l (h.wdk k (by simp; exact fun e => hn.2.2.2.2.2.2.2.1 e.symm) (by simp)) (blk_tw h.ab k (by simp; exact fun e => hn.2.2.2.2.2.2.2.2.1 e.symm)) (blk_tw h.cb k (by simp; exact fun e => hn.2.2.2.2.2.2.2.2.2 e.symm)) ?_
  rw [← row_set (fun z => z) xs i v hi]
  exact blk_set h.xb i _
/-- the row of acts is told anew -/
theorem Mi.sa (h : Mi q g b kb pw pa pc px B fa f cs xs C wh X C2 X2 s w0 w) (i : Nat) (hi : i < 4) (x : Option Nat) : Mi q g b kb pw pa pc px B (upd fa i x) f cs xs C wh X C2 X2 s w0 (w.setCell ⟨pa, i, none⟩ (ptr x)) := by
  have k : Tw [pa] w (w.setCell ⟨pa, i, none⟩ (ptr x)) := (Tw.refl [pa] w).st pa (.inl (by simp)) i _
  have hn := h.ne
  refine h.gen k (by simp) (fun j p hj hp => ⟨hp, rfl, rfl⟩) (h.stk k (by simp)) h.wh4 h.X2l (h.wdk k (by simp; exact fun e => hn.2.1.2.2.2.2 e.symm) (by simp)) ?_ (blk_tw h.cb k (by simp; exact hn.2.2.1.2.2.2.2.2)) (blk_tw h.xb k (by simp; exact hn.2.2.2.2.2.2.2.2.1))
  rw [← row_set ptr fa i x hi]
  exact blk_set h.ab i _
/-- an act that is begun -/
theorem Mi.nw (h : Mi q g b kb pw pa pc px B fa f cs xs C wh X C2 X2 s w0 w) {i p : Nat} {xa : Value} {Y : List Int} (hi : i < 4) (hp : w0.heap.size ≤ p) (hpn : ∀ j, j < 4 → f j ≠ some p) (c0 : 0 ≤ cs i) (c1 : cs i ≤ 999) (ha : Ac p q i xa (cs i) 0 0 false w) (h1 : Lst (b + 1) xa Y w) (h2 : Lst (b + 1) (xs i) Y w) (hY : Y.length = 2) : Mi q g b kb pw pa pc px B fa (upd f i (some p)) cs xs C wh X C2 X2 s w0 w := by
  refine ⟨h.st, h.wh4, h.X2l, h.wd, h.ab, h.cb, h.xb, fun j p2 hj hp2 => ?_, fun j k p2 hj hk e1 e2 => ?_, h.ge, h.bs, h.bel⟩
  · by_cases e : j = i
    · subst e
      rw [upd_at] at hp2
      injection hp2 with hp2
      subst hp2
      exact ⟨by rw [h.bs]; exact hp, ⟨xa, Y, 0, 0, ha, h1, h2, hY, .inl rfl⟩, c0, c1⟩
    · rw [upd_ne _ _ _ _ e] at hp2
      exact h.act j p2 hj hp2
  · by_cases e : j = i
    · by_cases e' : k = i
      · omega
      · rw [e, upd_at] at e1
        rw [upd_ne _ _ _ _ e'] at e2
        injection e1 with e1
        subst e1
        exact absurd e2 (hpn k hk)
    · rw [upd_ne _ _ _ _ e] at e1
      by_cases e' : k = i
      · rw [e', upd_at] at e2
        injection e2 with e2
        subst e2
        exact absurd e1 (hpn j hj)
      · rw [upd_ne _ _ _ _ e'] at e2
        exact h.inj j k p2 hj hk e1 e2
theorem mi_look (s0 : 0 ≤ s) (s1 : s ≤ 1000000) (h : Mi q g b kb pw pa pc px B fa f cs xs C wh X C2 X2 s w0 w) : Calls Try.prog 11 #[.pointer (some ⟨q, 0, none⟩)] w fun e w' => e = .returned (.int .i64 C) ∧ Below B w0 w' := by
  obtain ⟨vs, h1, h2⟩ := h.st
  have h4 := h.wh4
  have := lookN_any s0 s1 h1
  rw [n31, show ((C : Int) * 16 + wh) / 16 = C by omega] at this
  refine this.mono ?_
  rintro e w1 ⟨rfl, f1, f2⟩
  exact ⟨rfl, f2.below h.bel (by intro i hi; simp at hi; have := h.ge; omega) h.sz⟩
end
end Go.Proofs.Ytpmkpmenjaekmaa
