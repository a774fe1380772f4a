import Derived.Test.YtjlaankgfpjeeaaDoorRdOne
import Derived.Test.YtjlaankgfpjeeaaDoorInOne
import Derived.Test.YtjlaankgfpjeeaaDoorLexOne
import Derived.OwnWalk
import Derived.Deep.AppendLies
import Derived.Maps.AppendAt
import Derived.LoopTactic
import Derived.Lib.SmallJoins
import Derived.Deep.RegionHeld3
import Derived.BigRegion

/-
  The problem that a row of tokens tells, or what is wrong with it, and where.
-/
namespace Go.Proofs.YtjlaankgfpjeeaaDoor
open Go.RowKit
set_option linter.unusedVariables false
def nm1 : ByteArray := ⟨#[75, 78, 65, 80, 83, 65, 67, 75]⟩
def nm2 : ByteArray := ⟨#[65, 83, 83, 73, 71, 78, 77, 69, 78, 84]⟩
def nm3 : ByteArray := ⟨#[84, 83, 80]⟩
def wFull : ByteArray := ⟨#[70, 85, 76, 76]⟩
def wUpper : ByteArray := ⟨#[85, 80, 80, 69, 82]⟩
/-- which of three, of two texts -/
def idx3 (x : ByteArray) : Int := if x = nm1 then 0 else if x = nm2 then 1 else if x = nm3 then 2 else -1
def idx2 (x : ByteArray) : Int := if x = wFull then 0 else if x = wUpper then 1 else -1
/-- what is wrong with a token where a word must stand -/
def wf (t : Tok) (i : Int) : Int := if t.kind = 3 then 6 else if i < 0 then 3 else 0
/-- what is wrong with a token of a table that is written in full -/
def fE (n : Nat) (k : Nat) (t : Tok) : Int := if k % (n + 1) = 0 then zf t else eE t
def eK (k : Nat) (t : Tok) : Int := eE t
/-- where a row's numbers begin, above the middle -/
def rs (n : Nat) : Nat → Nat
  | 0 => 0
  | a + 1 => rs n a + (n - 1 - a)
/-- the state behind n, and n -/
def sz (T : List Tok) (s : St) (most : Int) : St := adv s (sf (tk T s.p) most)
def nOf (T : List Tok) (s : St) (most : Int) : Nat := if s.f = 0 ∧ sf (tk T s.p) most = 0 then (tk T s.p).num.toNat else 0
def s1 (T : List Tok) : St := adv ⟨0, 0⟩ (wf (tk T 0) (idx3 (tk T 0).text))
def s3 (T : List Tok) (s : St) : St := adv s (wf (tk T s.p) (idx2 (tk T s.p).text))
def kSt (T : List Tok) (s : St) : St := steps eK T (sz T s 64) (1 + 2 * nOf T s 64)
def aSt (T : List Tok) (s : St) : St := steps eK T (sz T s 24) (nOf T s 24 * nOf T s 24)
def tSt (T : List Tok) (s : St) : St :=
  if idx2 (tk T (sz T s 24).p).text = 0 then steps (fE (nOf T s 24)) T (s3 T (sz T s 24)) (nOf T s 24 * nOf T s 24)
  else steps eK T (s3 T (sz T s 24)) (rs (nOf T s 24) (nOf T s 24))
/-- where the reader is behind a problem -/
def PS (T : List Tok) : St := if idx3 (tk T 0).text = 1 then aSt T (s1 T) else if idx3 (tk T 0).text = 2 then tSt T (s1 T) else kSt T (s1 T)
inductive PRes where
  | ok (K : Int) (N : Nat) (C : Int) (wl vl : List Int) (cl : List (List Int))
  | bad (p : Nat) (e : Int)
/-- a table of numbers -/
def tab (n : Nat) (M : Nat → Nat → Int) : List (List Int) := (List.range n).map fun a => (List.range n).map fun b => M a b
def kWl (T : List Tok) (n : Nat) : List Int := (List.range n).map fun j => (tk T (2 + (1 + 2 * j))).num
def kVl (T : List Tok) (n : Nat) : List Int := (List.range n).map fun j => (tk T (2 + (2 + 2 * j))).num
def MA (T : List Tok) (p n a b : Nat) : Int := (tk T (p + (a * n + b))).num
def MU (T : List Tok) (n a b : Nat) : Int := if a = b then 0 else if a < b then (tk T (3 + (rs n a + (b - a - 1)))).num else (tk T (3 + (rs n b + (a - b - 1)))).num
/-- what a row of tokens tells -/
def PR (T : List Tok) : PRes :=
  if (fin T (PS T)).f ≠ 0 then .bad (tk T (fin T (PS T)).p).at_ (fin T (PS T)).f
  else if idx3 (tk T 0).text = 1 then .ok 2 (tk T 1).num.toNat 0 [] [] (tab (tk T 1).num.toNat (MA T 2 (tk T 1).num.toNat))
  else if idx3 (tk T 0).text = 2 then
    (if idx2 (tk T 2).text = 0 then .ok 3 (tk T 1).num.toNat 0 [] [] (tab (tk T 1).num.toNat (MA T 3 (tk T 1).num.toNat))
     else .ok 3 (tk T 1).num.toNat 0 [] [] (tab (tk T 1).num.toNat (MU T (tk T 1).num.toNat)))
  else .ok 1 (tk T 1).num.toNat (tk T 2).num (kWl T (tk T 1).num.toNat) (kVl T (tk T 1).num.toNat) []
theorem fin_bad {T : List Tok} {s : St} (h : s.f ≠ 0) : fin T s = s := by unfold fin; split; rfl; exact adv_bad h 7
theorem fin_ok {T : List Tok} {s : St} (h : (fin T s).f = 0) : s.f = 0 ∧ fin T s = s ∧ (tk T s.p).kind = 3 := by
  unfold fin at h ⊢
  split at h
  · rename_i q; rw [if_pos q]; exact ⟨h, rfl, q⟩
  · exfalso
    by_cases hf : s.f = 0
    · rw [adv_err hf (by decide)] at h; exact absurd (show (7 : Int) = 0 from h) (by decide)
    · rw [adv_bad hf] at h; exact hf h
theorem adv_zero {s : St} {e : Int} (h : (adv s e).f = 0) : s.f = 0 ∧ e = 0 := by
  by_cases hf : s.f = 0
  · by_cases he : e = 0
    · exact ⟨hf, he⟩
    · rw [adv_err hf he] at h; exact absurd h he
  · rw [adv_bad hf] at h; exact absurd h hf
/-- steps that end with no fault met none -/
theorem steps_zero (E : Nat → Tok → Int) (T : List Tok) (s : St) : ∀ k, (steps E T s k).f = 0 → s.f = 0 ∧ steps E T s k = ⟨s.p + k, 0⟩ ∧ ∀ j, j < k → E j (tk T (s.p + j)) = 0 ∧ steps E T s j = ⟨s.p + j, 0⟩
  | 0, h => ⟨h, (by cases s; rename_i p f; obtain rfl : f = 0 := h; rfl), fun j hj => absurd hj (by omega)⟩
  | k + 1, h => by
    rw [steps_succ] at h ⊢
    obtain ⟨h1, h2⟩ := adv_zero h
    obtain ⟨a, b, c⟩ := steps_zero E T s k h1
    rw [b] at h2 ⊢
    refine ⟨a, by rw [h2]; exact adv_ok rfl, fun j hj => ?_⟩
    by_cases q : j < k
    · exact c j q
    · obtain rfl : j = k := by omega
      exact ⟨h2, b⟩
end Go.Proofs.YtjlaankgfpjeeaaDoor

/-
  slices.Index over texts; word.
-/
namespace Go.Proofs.YtjlaankgfpjeeaaDoor
open Go.RowKit
set_option linter.unusedVariables false
def ixF : List ByteArray → ByteArray → Nat → Int
  | [], x, k => -1
  | y :: ys, x, k => if x = y then (k : Int) else ixF ys x (k + 1)
theorem ixF_nil (x : ByteArray) (k : Nat) : ixF [] x k = -1 := rfl
theorem ixF_cons (y : ByteArray) (ys : List ByteArray) (x : ByteArray) (k : Nat) : ixF (y :: ys) x k = if x = y then (k : Int) else ixF ys x (k + 1) := rfl
attribute [irreducible] ixF
theorem txt_ne {x y : ByteArray} (h : ¬ x = y) : (x.toList == y.toList) = false := by
  rw [ByteArray.toList_eq, ByteArray.toList_eq]
  cases e : x.data.toList == y.data.toList
  · rfl
  · exfalso
    have e1 := Array.toList_inj.1 (beq_iff_eq.1 e)
    apply h
    cases x; cases y; exact congrArg _ e1
theorem txt_eq (x : ByteArray) : (x.toList == x.toList) = true := by simp
set_option maxHeartbeats 1000000 in
theorem index_any (xs : List ByteArray) (x : ByteArray) (g c : Nat) (h1 : xs.length ≤ 10) (w : World) (hc : ∀ j, j < xs.length → w.cell? ⟨g, j, none⟩ = some (.string (xs[j]?.getD noText))) :
    Calls Tryd.prog 58 #[.slice (some ⟨g, 0, none⟩) xs.length c, .string x] w fun e w' => e = .returned (.int .i64 (ixF xs x 0)) ∧ w = w' := by
  have HC := Lib.hid hc
  obtain ⟨r, hr⟩ : ∃ r, r = ixF xs x 0 := ⟨_, rfl⟩
  rw [← hr]
  clear hc
  go_enter Tryd.func58, Tryd.ntmps58
  go_wp2
  go_loopw [8] (fun i wr => ∃ k : Nat, k ≤ xs.length ∧ i = .int .i64 k ∧ Hid (ixF (xs.drop k) x k = r) ∧ wr = w) (fun i _ => xs.length - (intOf i).toNat)
  case atStart => exact ⟨0, by omega, rfl, Lib.hid (by simpa using hr.symm), rfl⟩
  case round =>
    obtain ⟨k, hk, rfl, HS, rfl⟩ := hrel
    by_cases hlt : k < xs.length
    · have kb : (0 : Int) ≤ (k : Int) ∧ (k : Int) < (xs.length : Int) := by omega
      have ck := HC.out k hlt
      have hs := HS.out
      rw [List.drop_eq_getElem_cons hlt, ixF_cons] at hs
      have e : xs[k]?.getD noText = xs[k] := by rw [List.getElem?_eq_getElem hlt]; rfl
      rw [e] at ck
      generalize xs[k] = y at *
      clear e
      by_cases q : x = y
      · subst q
        rw [if_pos rfl] at hs
        subst hs
        clear hr
        go_wp2
        go_ret
        exact ⟨rfl, rfl⟩
      · rw [if_neg q] at hs
        have HS2 := Lib.hid hs
        clear hs hr
        have d0 := txt_ne q
        clear q
        go_wp2
        go_roundw
        case rel => exact ⟨k + 1, by omega, by go_num, HS2, trivial⟩
        case measure => simp [intOf]; omega
    · obtain rfl : k = xs.length := by omega
      have hs := HS.out
      rw [List.drop_length, ixF_nil] at hs
      subst hs
      clear hr
      go_wp2
      go_ret
      exact ⟨rfl, rfl⟩
end Go.Proofs.YtjlaankgfpjeeaaDoor

/-
  word.
-/
namespace Go.Proofs.YtjlaankgfpjeeaaDoor
open Go.RowKit
set_option linter.unusedVariables false
theorem pass_s (b g C : Nat) (T : List Tok) (s : St) (e : Int) (he : e = 0 → (tk T s.p).kind ≠ 3) (w : World) (h : RS b g C T s w) :
    Calls Tryd.prog 49 #[.pointer (some ⟨b, 0, none⟩), .int .i64 e] w fun r w' => (∃ q, r = .returned (.bool q)) ∧ RS b g C T (adv s e) w' ∧ w.grownBy w' (some b) := by
  have hl := h.lt
  have hc := h.cap
  refine (pass_any b g (4 * s.p) (T.length - s.p - 1) (C - s.p - 1) s.f e (fun k => by have := h.form.more hl (he k); omega) (by omega) w h.box1).mono ?_
  rintro r w' ⟨rfl, hW, hC⟩
  exact ⟨⟨_, rfl⟩, h.went he hW hC, grew hC⟩
set_option maxHeartbeats 4000000 in
theorem word_core (b g C : Nat) (T : List Tok) (s : St) (t : Tok) (ht : tk T s.p = t) (xs : List ByteArray) (gx cx : Nat) (w : World) (h : RS b g C T s w) (hn : xs.length ≤ 10) (hc : ∀ j, j < xs.length → w.cell? ⟨gx, j, none⟩ = some (.string (xs[j]?.getD noText)))
    (i : Int) (hi : i = ixF xs t.text 0) :
    Calls Tryd.prog 45 #[.pointer (some ⟨b, 0, none⟩), .slice (some ⟨gx, 0, none⟩) xs.length cx] w fun r w' => r = .returned (.int .i64 i) ∧ RS b g C T (adv s (wf t i)) w' ∧ w.grownBy w' (some b) := by
  obtain ⟨c0, c1, fz⟩ := h.box.cells
  have hl := h.lt
  have hcap := h.cap
  obtain ⟨t0, t1, t2, t3⟩ := h.toks.front hl
  rw [ht] at t0 t1 t2 t3
  obtain ⟨m, hm⟩ : ∃ m, T.length - s.p = m + 1 := ⟨T.length - s.p - 1, by omega⟩
  rw [hm] at c0
  have hx : ∀ j, j < xs.length → (w.alloc (tokO t)).cell? ⟨gx, j, none⟩ = some (.string (xs[j]?.getD noText)) := fun j hj => by
    have q := hc j hj
    have : gx < w.heap.size := World.block_lt_of_cell? w ⟨gx, j, none⟩ q
    rw [World.cell?_of_block (a := ⟨gx, j, none⟩) (Below.heap_alloc w (tokO t) gx this)]; exact q
  have IX := Lib.hid (index_any xs t.text gx cx hn (w.alloc (tokO t)) hx)
  rw [← hi] at IX
  have hR := h.alloc (tokO t)
  have hp : wf t i = 0 → (tk T s.p).kind ≠ 3 := fun q k => by
    unfold wf at q
    rw [ht] at k
    rw [if_pos k] at q
    omega
  have HP := Lib.hid (pass_s b g C T s (wf t i) hp (w.alloc (tokO t)) hR)
  have GA : Hid (w.grownBy (w.alloc (tokO t)) (some b)) := World.grownBy_alloc w _ _
  have k0 := (tok_cells (heap_alloc_new w (tokO t))).1
  have k1 := (tok_cells (heap_alloc_new w (tokO t))).2.1
  unfold tokO at k0 k1
  clear h hx hc hR hl hcap hm hp ht hi hn
  unfold wf at HP ⊢
  by_cases hk : t.kind = 3
  · rw [hk] at t0 k0
    rw [if_pos hk] at HP ⊢
    unfold tokO at IX HP GA
    rw [hk] at IX HP GA
    clear hk
    go_enter Tryd.func45, Tryd.ntmps45
    go_wp2_with fail
    refine IX.out.mono ?_
    rintro r w2 ⟨rfl, rfl⟩
    go_wp2_with fail
    refine HP.out.mono ?_
    rintro r w3 ⟨⟨q, rfl⟩, hW, hG⟩
    have FN := Lib.hid (And.intro hW (GA.out.trans hG))
    clear hW hG HP IX GA
    go_wp2
    go_ret
    exact ⟨rfl, FN.out⟩
  · rw [if_neg hk] at HP ⊢
    have d0 : (t.kind == 3) = false := by simpa using hk
    clear hk
    unfold tokO at IX HP GA
    by_cases h0 : i < 0
    · rw [if_pos h0] at HP ⊢
      go_enter Tryd.func45, Tryd.ntmps45
      go_wp2_with fail
      refine IX.out.mono ?_
      rintro r w2 ⟨rfl, rfl⟩
      go_wp2_with fail
      refine HP.out.mono ?_
      rintro r w3 ⟨⟨q, rfl⟩, hW, hG⟩
      have FN := Lib.hid (And.intro hW (GA.out.trans hG))
      clear hW hG HP IX GA
      go_wp2
      go_ret
      exact ⟨rfl, FN.out⟩
    · rw [if_neg h0] at HP ⊢
      go_enter Tryd.func45, Tryd.ntmps45
      go_wp2_with fail
      refine IX.out.mono ?_
      rintro r w2 ⟨rfl, rfl⟩
      go_wp2_with fail
      refine HP.out.mono ?_
      rintro r w3 ⟨⟨q, rfl⟩, hW, hG⟩
      have FN := Lib.hid (And.intro hW (GA.out.trans hG))
      clear hW hG HP IX GA
      go_wp2
      go_ret
      exact ⟨rfl, FN.out⟩
end Go.Proofs.YtjlaankgfpjeeaaDoor

/-
  A table of numbers in memory: rows in blocks of their own, listed in one of their own.
-/
namespace Go.Proofs.YtjlaankgfpjeeaaDoor
open Go.RowKit
set_option linter.unusedVariables false
def rwv (M : Nat → Nat → Int) (n j : Nat) : List Value := (List.range n).map fun b => .int .i64 (M j b)
def upd (M : Nat → Nat → Int) (a b : Nat) (x : Int) (i j : Nat) : Int := if i = a ∧ j = b then x else M i j
theorem rwv_len (M : Nat → Nat → Int) (n j : Nat) : (rwv M n j).length = n := by simp [rwv]
theorem rwv_at (M : Nat → Nat → Int) (n j b : Nat) (h : b < n) : (rwv M n j)[b]? = some (.int .i64 (M j b)) := by unfold rwv; simp [h]
theorem rwv_congr {M M' : Nat → Nat → Int} {n j : Nat} (h : ∀ b, b < n → M j b = M' j b) : rwv M n j = rwv M' n j := by
  unfold rwv
  apply List.map_congr_left
  intro b hb
  rw [h b (List.mem_range.1 hb)]
theorem rwv_set (M : Nat → Nat → Int) (n a b : Nat) (x : Int) : (rwv M n a).set b (.int .i64 x) = rwv (upd M a b x) n a := by
  apply List.ext_getElem
  · simp [rwv]
  · intro j h1 h2
    rw [List.getElem_set]
    by_cases e : b = j
    · subst e; simp [rwv, upd]
    · simp [rwv, upd, e, show ¬ j = b by omega]
theorem rwv_zero (n a : Nat) : rwv (fun _ _ => 0) n a = List.replicate n (.int .i64 0) := by unfold rwv; apply List.ext_getElem <;> simp
def tl (gs : Nat → Nat) (n a : Nat) : List Value := (List.range n).map fun j => if j < a then .slice (some ⟨gs j, 0, none⟩) n n else .slice none 0 0
theorem tl_set (gs : Nat → Nat) (n a g : Nat) : (tl gs n a).set a (.slice (some ⟨g, 0, none⟩) n n) = tl (fun j => if j = a then g else gs j) n (a + 1) := by
  apply List.ext_getElem
  · simp [tl]
  · intro j h1 h2
    rw [List.getElem_set]
    by_cases e : a = j
    · subst e; simp [tl]
    · have : j < a ↔ j < a + 1 := by omega
      simp [tl, e, this, show ¬ j = a by omega]
theorem tl_at (gs : Nat → Nat) (n a j : Nat) (hj : j < n) : (tl gs n a)[j]? = some (if j < a then .slice (some ⟨gs j, 0, none⟩) n n else .slice none 0 0) := by unfold tl; simp [hj]
theorem tl_nil (gs : Nat → Nat) (n : Nat) : tl gs n 0 = List.replicate n (.slice none 0 0) := by unfold tl; apply List.ext_getElem <;> simp
attribute [irreducible] rwv tl upd
theorem row_kindE {w : World} {B n size : Nat} {e : TypeId} {v : Value} {xs : List Value} (h : w.ownsRow B e size v n xs) {x : Nat} (hx : v.ownBlock = some x) : ∃ cur, w.heap[x]? = some (.cells cur e (0, 0)) := by
  rcases h.2 with ⟨rfl, _⟩ | ⟨g, cap, cur, rfl, _, hg, _⟩
  · cases hx
  · injection hx with hx
    subst hx
    exact ⟨cur, hg⟩
theorem row_neE {w : World} {B n b size : Nat} {e : TypeId} {v : Value} {xs : List Value} {cs : Array Value} {t : TypeId} (h : w.ownsRow B e size v n xs) (hb : w.heap[b]? = some (.cells cs t (0, 0))) (ht : t ≠ e) : v.ownBlock ≠ some b := fun q => by
  obtain ⟨cur, hc⟩ := row_kindE h q
  exact ip.blk_ne hb hc ht rfl
/-- a table in memory, from B on -/
structure TBL (B gc n : Nat) (gs : Nat → Nat) (M : Nat → Nat → Int) (w : World) : Prop where
  top : w.ownsRow B 22 1 (.slice (some ⟨gc, 0, none⟩) n n) n (tl gs n n)
  rows : ∀ j, j < n → w.ownsRow B 3 1 (.slice (some ⟨gs j, 0, none⟩) n n) n (rwv M n j)
  inj : ∀ i j, i < n → j < n → gs i = gs j → i = j
theorem TBL.congr {B gc n : Nat} {gs : Nat → Nat} {M M' : Nat → Nat → Int} {w : World} (h : TBL B gc n gs M w) (hM : ∀ i j, i < n → j < n → M i j = M' i j) : TBL B gc n gs M' w :=
  ⟨h.top, fun j hj => by rw [← rwv_congr (M := M) (M' := M') (fun b hb => hM j b hj hb)]; exact h.rows j hj, h.inj⟩
theorem TBL.kept {B gc n b : Nat} {gs : Nat → Nat} {M : Nat → Nat → Int} {w w' : World} (h : TBL B gc n gs M w) (hg : w.grownBy w' (some b)) {cs : Array Value} (hb : w.heap[b]? = some (.cells cs 61 (0, 0))) : TBL B gc n gs M w' :=
  ⟨h.top.kept hg (.inr (row_neE h.top hb (by decide))), fun j hj => (h.rows j hj).kept hg (.inr (row_neE (h.rows j hj) hb (by decide))), h.inj⟩
theorem TBL.drew {B gc n : Nat} {gs : Nat → Nat} {M : Nat → Nat → Int} {w : World} (h : TBL B gc n gs M w) : TBL B gc n gs M w.drew := ⟨h.top, h.rows, h.inj⟩
theorem TBL.up {B gc n : Nat} {gs : Nat → Nat} {M : Nat → Nat → Int} {w w' : World} (h : TBL B gc n gs M w) (hb : Below w.heap.size w w') : TBL B gc n gs M w' :=
  ⟨ownsRow_up h.top hb, fun j hj => ownsRow_up (h.rows j hj) hb, h.inj⟩
theorem TBL.store {B gc n : Nat} {gs : Nat → Nat} {M : Nat → Nat → Int} {w : World} (h : TBL B gc n gs M w) {a b : Nat} (ha : a < n) (hb : b < n) (x : Int) : TBL B gc n gs (upd M a b x) (w.setCell ⟨gs a, b, none⟩ (.int .i64 x)) := by
  obtain ⟨cur, hc⟩ := row_kindE (h.rows a ha) rfl
  refine ⟨ownsRow_setCell_other (a := ⟨gs a, b, none⟩) h.top (fun e => row_neE h.top hc (by decide) e) _, fun j hj => ?_, h.inj⟩
  by_cases e : j = a
  · subst e
    rw [← rwv_set]
    exact ((h.rows j hj).stored b _).1
  · rw [← rwv_congr (M := M) (fun c hcn => by unfold upd; rw [if_neg (fun q => e q.1)])]
    exact ownsRow_setCell_other (a := ⟨gs a, b, none⟩) (h.rows j hj) (fun q => e (h.inj j a hj ha (by injection q))) _
theorem TBL.rowAt {B gc n : Nat} {gs : Nat → Nat} {M : Nat → Nat → Int} {w : World} (h : TBL B gc n gs M w) {a : Nat} (ha : a < n) : w.cell? ⟨gc, a, none⟩ = some (.slice (some ⟨gs a, 0, none⟩) n n) := by
  rw [h.top.cellAt a (by omega), tl_at _ _ _ _ ha, if_pos ha]
theorem TBL.cellAt {B gc n : Nat} {gs : Nat → Nat} {M : Nat → Nat → Int} {w : World} (h : TBL B gc n gs M w) {a b : Nat} (ha : a < n) (hb : b < n) : w.cell? ⟨gs a, b, none⟩ = some (.int .i64 (M a b)) := by
  rw [(h.rows a ha).cellAt b (by omega), rwv_at _ _ _ _ hb]
theorem TBL.frozen {B gc n : Nat} {gs : Nat → Nat} {M : Nat → Nat → Int} {w : World} (h : TBL B gc n gs M w) {a : Nat} (ha : a < n) (b : Nat) : w.frozen? ⟨gs a, b, none⟩ = false := (h.rows a ha).frozenAt b
/-- what lies below B is as it was, but for the reader's box -/
structure Up (B b : Nat) (w w' : World) : Prop where
  os : w'.os = w.os
  tape : w'.tape = w.tape
  output : w'.output = w.output
  size : w.heap.size ≤ w'.heap.size
  block : ∀ k, k < B → k ≠ b → w'.heap[k]? = w.heap[k]?
theorem Up.refl (B b : Nat) (w : World) : Up B b w w := ⟨rfl, rfl, rfl, Nat.le_refl _, fun _ _ _ => rfl⟩
theorem Up.call {B b : Nat} {w w1 w2 : World} (h : Up B b w w1) (hB : B ≤ w1.heap.size) (hg : w1.grownBy w2 (some b)) : Up B b w w2 :=
  ⟨hg.os.trans h.os, hg.tape.trans h.tape, hg.output.trans h.output, Nat.le_trans h.size hg.size, fun k hk hne => (hg.block k (by omega) (fun e => hne (by injection e))).trans (h.block k hk hne)⟩
theorem Up.drew {B b : Nat} {w w1 : World} (h : Up B b w w1) : Up B b w w1.drew := ⟨h.os, h.tape, h.output, h.size, h.block⟩
theorem Up.set {B b : Nat} {w w1 : World} (h : Up B b w w1) {q : Nat} (hq : B ≤ q) (j : Nat) (v : Value) : Up B b w (w1.setCell ⟨q, j, none⟩ v) :=
  ⟨h.os, h.tape, h.output, by simpa [World.setCell] using h.size, fun k hk hne => (heap_setCell_other w1 ⟨q, j, none⟩ k v (by show k ≠ q; omega)).trans (h.block k hk hne)⟩
/-- a table that is being read, and the reader -/
structure FS (b g C : Nat) (T : List Tok) (B gc n : Nat) (gs : Nat → Nat) (s : St) (M : Nat → Nat → Int) (w wr : World) : Prop where
  rd : RS b g C T s wr
  tb : TBL B gc n gs M wr
  up : Up B b w wr
  base : B ≤ wr.heap.size
theorem FS.call {b g C : Nat} {T : List Tok} {B gc n : Nat} {gs : Nat → Nat} {s s' : St} {M : Nat → Nat → Int} {w wr w1 : World} (h : FS b g C T B gc n gs s M w wr) (hr : RS b g C T s' w1) (hg : wr.grownBy w1 (some b)) : FS b g C T B gc n gs s' M w w1 :=
  ⟨hr, h.tb.kept hg (by have := h.rd.box; unfold RD at this; exact this), h.up.call h.base hg, Nat.le_trans h.base hg.size⟩
theorem FS.drew {b g C : Nat} {T : List Tok} {B gc n : Nat} {gs : Nat → Nat} {s : St} {M : Nat → Nat → Int} {w wr : World} (h : FS b g C T B gc n gs s M w wr) : FS b g C T B gc n gs s M w wr.drew := ⟨h.rd.drew, h.tb.drew, h.up.drew, h.base⟩
theorem FS.store {b g C : Nat} {T : List Tok} {B gc n : Nat} {gs : Nat → Nat} {s : St} {M : Nat → Nat → Int} {w wr : World} (h : FS b g C T B gc n gs s M w wr) {a c : Nat} (ha : a < n) (hc : c < n) (x : Int) : FS b g C T B gc n gs s (upd M a c x) w (wr.setCell ⟨gs a, c, none⟩ (.int .i64 x)) := by
  obtain ⟨cur, hk⟩ := row_kindE (h.tb.rows a ha) rfl
  obtain ⟨h1, h2⟩ := h.rd.far hk (by decide) (by decide)
  exact ⟨h.rd.set h1 h2 _ _, h.tb.store ha hc x, h.up.set ((h.tb.rows a ha).lt (gs a) rfl).1 _ _, by simpa [World.setCell] using h.base⟩
theorem FS.congr {b g C : Nat} {T : List Tok} {B gc n : Nat} {gs : Nat → Nat} {s : St} {M M' : Nat → Nat → Int} {w wr : World} (h : FS b g C T B gc n gs s M w wr) (hM : ∀ i j, i < n → j < n → M i j = M' i j) : FS b g C T B gc n gs s M' w wr := ⟨h.rd, h.tb.congr hM, h.up, h.base⟩
end Go.Proofs.YtjlaankgfpjeeaaDoor

/-
  square.
-/
namespace Go.Proofs.YtjlaankgfpjeeaaDoor
open Go.RowKit
set_option linter.unusedVariables false
theorem info23 : (Tryd.prog.info? 22).map (fun i => (i.zero, i.size, i.bytes)) = some (some (.slice none 0 0), 1, 24) := by kernel_rfl
theorem info3 : (Tryd.prog.info? 3).map (fun i => (i.zero, i.size, i.bytes)) = some (some (.int .i64 0), 1, 8) := by kernel_rfl
theorem toList_one (z : Value) (n : Nat) : List.replicate n z = (madeCells #[z] n).toList := (toList_madeCells_one z n).symm
structure SQ (B gc n a : Nat) (gs : Nat → Nat) (w wr : World) : Prop where
  top : wr.ownsRow B 22 1 (.slice (some ⟨gc, 0, none⟩) n n) n (tl gs n a)
  rows : ∀ j, j < a → wr.ownsRow B 3 1 (.slice (some ⟨gs j, 0, none⟩) n n) n (rwv (fun _ _ => 0) n j)
  inj : ∀ i j, i < a → j < a → gs i = gs j → i = j
  gone : Below w.heap.size w wr
  sz : w.heap.size ≤ B
  bs : B ≤ wr.heap.size
theorem SQ.next {B gc n a : Nat} {gs : Nat → Nat} {w wr w1 : World} (h : SQ B gc n a gs w wr) (hr : w1.ownsRow B 3 1 (.slice (some ⟨wr.heap.size, 0, none⟩) n n) n (rwv (fun _ _ => 0) n a)) (hg : wr.grownBy w1 none) :
    SQ B gc n (a + 1) (fun j => if j = a then wr.heap.size else gs j) w (w1.setCell ⟨gc, a, none⟩ (.slice (some ⟨wr.heap.size, 0, none⟩) n n)) := by
  obtain ⟨ct, hct⟩ := row_kindE h.top rfl
  have hgc := (h.top.lt gc rfl)
  have hct1 : w1.heap[gc]? = some (.cells ct 22 (0, 0)) := (hg.block gc hgc.2 (by simp)).trans hct
  have kp : ∀ {v : Value} {k : Nat} {xs : List Value}, wr.ownsRow B 3 1 v k xs → (w1.setCell ⟨gc, a, none⟩ (.slice (some ⟨wr.heap.size, 0, none⟩) n n)).ownsRow B 3 1 v k xs := fun hv =>
    ownsRow_setCell_other (a := ⟨gc, a, none⟩) (hv.kept hg (by cases e : Value.ownBlock _ with | none => exact .inl rfl | some y => exact .inr (by simp))) (row_neE (hv.kept hg (by cases e : Value.ownBlock _ with | none => exact .inl rfl | some y => exact .inr (by simp))) hct1 (by decide)) _
  refine ⟨?_, fun j hj => ?_, fun i j hi hj e => ?_, ?_, h.sz, by have := hg.size; have := h.bs; simp [World.setCell]; omega⟩
  · rw [← tl_set]
    exact ((h.top.kept hg (.inr (by simp [Value.ownBlock]))).stored a _).1
  · by_cases e : j = a
    · subst e
      simp only [if_true]
      exact ownsRow_setCell_other (a := ⟨gc, j, none⟩) hr (row_neE hr hct1 (by decide)) _
    · simp only [e, if_false]
      exact kp (h.rows j (by omega))
  · by_cases e1 : i = a <;> by_cases e2 : j = a
    · omega
    · simp only [e1, e2, if_true, if_false] at e
      have := ((h.rows j (by omega)).lt (gs j) rfl).2
      omega
    · simp only [e1, e2, if_true, if_false] at e
      have := ((h.rows i (by omega)).lt (gs i) rfl).2
      omega
    · simp only [e1, e2, if_false] at e
      exact h.inj i j (by omega) (by omega) e
  · have hz := h.sz
    exact ⟨hg.os.trans h.gone.os, hg.tape.trans h.gone.tape, hg.output.trans h.gone.output, by have := h.gone.size; have := hg.size; simp [World.setCell]; omega, fun k hk => by
      rw [heap_setCell_other w1 ⟨gc, a, none⟩ k _ (by show k ≠ gc; omega)]
      exact (hg.block k (by have := h.gone.size; omega) (by simp)).trans (h.gone.block k hk)⟩
set_option maxRecDepth 100000 in
set_option maxHeartbeats 4000000 in
theorem square_any (n : Nat) (n2 : n ≤ 24) (w : World) : Calls Tryd.prog 60 #[.int .i64 n] w fun e w' => ∃ (gc : Nat) (gs : Nat → Nat), e = .returned (.slice (some ⟨gc, 0, none⟩) n n) ∧ TBL w.heap.size gc n gs (fun _ _ => 0) w' ∧ Below w.heap.size w w' := by
  obtain ⟨i0, hi, hz0, hz1, hz2⟩ := info_parts info3
  obtain ⟨i23, hi23, hy0, hy1, hy2⟩ := info_parts info23
  go_enter Tryd.func60, Tryd.ntmps60
  go_wp2_with (at_make; refine wpList_make_full _ rfl _ _ 23 rfl w.heap.size 22 i23 (.slice none 0 0) 1 Tryd.underlying23 hi23 hy0 hy1 .i64 .i64 _ _ n rfl rfl rfl rfl (by rw [hy2]; omega) (by unfold maxLen; omega) (Nat.le_refl _) ?_)
  intro w2 hown hgrow
  have K0 : Hid (SQ w.heap.size w.heap.size n 0 (fun _ => 0) w w2) := ⟨by rw [tl_nil, toList_one]; exact hown, fun j hj => by omega, fun i j hi => by omega, ⟨hgrow.os, hgrow.tape, hgrow.output, hgrow.size, fun i hi => hgrow.block i hi (by simp)⟩, Nat.le_refl _, hgrow.size⟩
  clear hown hgrow
  generalize hgc : w.heap.size = gc at *
  obtain ⟨B, hB⟩ : ∃ B, B = gc := ⟨_, rfl⟩
  have K1 : Hid (SQ B gc n 0 (fun _ => 0) w w2) := by rw [hB]; exact K0
  clear K0
  have hgcB := Lib.hid hgc
  have hBB := Lib.hid hB
  clear hgc hB
  go_wp2
  go_loopw [9] (fun i wr => ∃ (a : Nat) (gs : Nat → Nat), a ≤ n ∧ i = .int .i64 a ∧ Hid (SQ B gc n a gs w wr)) (fun i _ => n - (intOf i).toNat)
  case atStart => exact ⟨0, fun _ => 0, by omega, rfl, K1⟩
  case round =>
    clear K1
    obtain ⟨a, gs0, ha, rfl, HC⟩ := hrel
    by_cases hal : a < n
    · have q1 : (a : Int) < (n : Int) := by omega
      have q2 : (0 : Int) ≤ (a : Int) := by omega
      obtain ⟨w3, hrun, hr3, hg3⟩ := run_make_full (P := Tryd.prog) wr B 22 3 i0 (.int .i64 0) 1 Tryd.underlying22 hi hz0 hz1 .i64 .i64 n (by rw [hz2]; omega) (by unfold maxLen; omega) HC.out.bs
      have hr4 : w3.ownsRow B 3 1 (.slice (some ⟨wr.heap.size, 0, none⟩) n n) n (rwv (fun _ _ => 0) n a) := by have := hr3; rw [Nat.mul_one] at this; rw [rwv_zero, toList_one]; exact this
      have HK0 := Lib.hid (HC.out.next hr4 hg3)
      have c3 : w3.cell? ⟨gc, a, none⟩ = some (.slice none 0 0) := by
        have := (HC.out.top.kept hg3 (.inr (by simp [Value.ownBlock]))).cellAt a (by omega)
        rw [this, tl_at _ _ _ _ hal, if_neg (by omega)]
      have f3 : w3.frozen? ⟨gc, a, none⟩ = false := (HC.out.top.kept hg3 (.inr (by simp [Value.ownBlock]))).frozenAt a
      clear hr3 hr4 hg3 HC
      go_wp2
      go_roundw
      case rel => exact ⟨a + 1, _, by omega, by go_num, HK0⟩
      case measure => simp [intOf]; omega
    · obtain rfl : a = n := by omega
      have FN := HC.out
      go_wp2
      go_ret
      exact ⟨gc, gs0, rfl, ⟨by rw [hgcB.out]; have := FN.top; rw [hBB.out] at this; exact this, fun j hj => by rw [hgcB.out]; have := FN.rows j hj; rw [hBB.out] at this; exact this, FN.inj⟩, FN.gone⟩
end Go.Proofs.YtjlaankgfpjeeaaDoor

/-
  full.
-/
namespace Go.Proofs.YtjlaankgfpjeeaaDoor
open Go.RowKit
set_option linter.unusedVariables false
/-- a table of which the places ahead of (a, b) are told -/
def MT (F : Nat → Nat → Int) (a b i j : Nat) : Int := if i < a ∨ (i = a ∧ j < b) then F i j else 0
theorem MT_zero (F : Nat → Nat → Int) (i j : Nat) : MT F 0 0 i j = 0 := by unfold MT; rw [if_neg (by omega)]
theorem MT_set (F : Nat → Nat → Int) (a b i j : Nat) : upd (MT F a b) a b (F a b) i j = MT F a (b + 1) i j := by
  unfold upd MT
  by_cases h : i = a ∧ j = b
  · rw [if_pos h, if_pos (by omega), h.1, h.2]
  · rw [if_neg h]
    by_cases q : i < a ∨ (i = a ∧ j < b)
    · rw [if_pos q, if_pos (by omega)]
    · rw [if_neg q, if_neg (by omega)]
theorem MT_skip (F : Nat → Nat → Int) (a b i j : Nat) (h : F a b = 0) : MT F a b i j = MT F a (b + 1) i j := by
  unfold MT
  by_cases q : i < a ∨ (i = a ∧ j < b)
  · rw [if_pos q, if_pos (by omega)]
  · rw [if_neg q]
    by_cases q2 : i < a ∨ (i = a ∧ j < b + 1)
    · rw [if_pos q2]
      obtain ⟨rfl, rfl⟩ : i = a ∧ j = b := by omega
      exact h.symm
    · rw [if_neg q2]
theorem MT_row (F : Nat → Nat → Int) (a n i j : Nat) (h : j < n) : MT F a n i j = MT F (a + 1) 0 i j := by
  unfold MT
  by_cases q : i < a ∨ (i = a ∧ j < n)
  · rw [if_pos q, if_pos (by omega)]
  · rw [if_neg q, if_neg (by omega)]
theorem MT_all (F : Nat → Nat → Int) (n i j : Nat) (h : i < n) : MT F n 0 i j = F i j := by unfold MT; rw [if_pos (by omega)]
attribute [irreducible] MT
/-- what full leaves at a place -/
def FF (T : List Tok) (s : St) (n i j : Nat) : Int := if i = j then 0 else vn (fE n) T s (i * n + j)
theorem fE_diag (n a : Nat) (h : a < n) (t : Tok) : fE n (a * n + a) t = zf t := by
  unfold fE
  rw [if_pos (by rw [show a * n + a = a * (n + 1) by rw [Nat.mul_succ]]; exact Nat.mul_mod_left a (n + 1))]
theorem fE_off (n a b : Nat) (ha : a < n) (hb : b < n) (h : ¬ a = b) (t : Tok) : fE n (a * n + b) t = eE t := by
  unfold fE
  rw [if_neg]
  intro e
  rcases Nat.lt_or_ge b a with q | q
  · have e2 : a * n + b = (n + 1) * (a - 1) + (n + 1 - (a - b)) := by
      obtain ⟨c, rfl⟩ : ∃ c, a = c + 1 := ⟨a - 1, by omega⟩
      rw [show c + 1 - 1 = c by omega, Nat.succ_mul, Nat.succ_mul, Nat.mul_comm c n]
      omega
    rw [e2, Nat.mul_add_mod, Nat.mod_eq_of_lt (by omega)] at e
    omega
  · have e2 : a * n + b = (n + 1) * a + (b - a) := by
      rw [Nat.succ_mul, Nat.mul_comm a n]
      omega
    rw [e2, Nat.mul_add_mod, Nat.mod_eq_of_lt (by omega)] at e
    omega
theorem fs_row {b g C : Nat} {T : List Tok} {B gc n : Nat} {gs : Nat → Nat} {s s' : St} {F : Nat → Nat → Int} {a : Nat} {w wr : World} (h : FS b g C T B gc n gs s (MT F a n) w wr) (hs : s = s') : FS b g C T B gc n gs s' (MT F (a + 1) 0) w wr := by
  subst hs
  exact h.congr (fun i j hi hj => MT_row F a n i j hj)
set_option maxRecDepth 100000 in
set_option maxHeartbeats 4000000 in
theorem full_s (b g C : Nat) (T : List Tok) (s : St) (n : Nat) (n2 : n ≤ 24) (B gc : Nat) (gs : Nat → Nat) (w : World) (hr : RS b g C T s w) (ht : TBL B gc n gs (fun _ _ => 0) w) (hB : B ≤ w.heap.size) :
    Calls Tryd.prog 62 #[.pointer (some ⟨b, 0, none⟩), .slice (some ⟨gc, 0, none⟩) n n] w fun r w' => r = .returned (.tuple #[]) ∧ FS b g C T B gc n gs (steps (fE n) T s (n * n)) (FF T s n) w w' := by
  have K1 : Hid (FS b g C T B gc n gs (steps (fE n) T s (0 * n)) (MT (FF T s n) 0 0) w w) := ⟨by rw [Nat.zero_mul]; exact hr, ht.congr (fun i j _ _ => (MT_zero _ i j).symm), Up.refl _ _ _, hB⟩
  clear hr ht hB
  go_enter Tryd.func62, Tryd.ntmps62
  go_wp2
  go_loopw [9] (fun i wr => ∃ (a : Nat), a ≤ n ∧ i = .int .i64 a ∧ Hid (FS b g C T B gc n gs (steps (fE n) T s (a * n)) (MT (FF T s n) a 0) w wr)) (fun i _ => n - (intOf i).toNat)
  case atStart => exact ⟨0, by omega, rfl, K1⟩
  case round =>
    clear K1
    obtain ⟨a, ha, rfl, HC⟩ := hrel
    by_cases hal : a < n
    · have q1 : (a : Int) < (n : Int) := by omega
      have q2 : (0 : Int) ≤ (a : Int) := by omega
      have c0 := HC.out.tb.rowAt hal
      have HK0 : Hid (FS b g C T B gc n gs (steps (fE n) T s (a * n + 0)) (MT (FF T s n) a 0) w wr) := HC
      clear HC
      go_wp2
      clear c0
      go_loopw [16] (fun i wr2 => ∃ c : Nat, c ≤ n ∧ i = .int .i64 c ∧ Hid (FS b g C T B gc n gs (steps (fE n) T s (a * n + c)) (MT (FF T s n) a c) w wr2)) (fun i _ => n - (intOf i).toNat)
      case atStart => exact ⟨0, by omega, rfl, HK0⟩
      case round =>
        clear HK0
        obtain ⟨c, hc, rfl, HK⟩ := hrel
        by_cases hcn : c < n
        · have q3 : (c : Int) < (n : Int) := by omega
          have q4 : (0 : Int) ≤ (c : Int) := by omega
          by_cases hac : a = c
          · subst hac
            have FN : Hid (∀ w1, RS b g C T (adv (steps (fE n) T s (a * n + a)) (zf (tk T (steps (fE n) T s (a * n + a)).p))) w1 → wr.grownBy w1 (some b) → FS b g C T B gc n gs (steps (fE n) T s (a * n + (a + 1))) (MT (FF T s n) a (a + 1)) w w1) := fun w1 h1 h2 => by
              have := HK.out.call h1 h2
              rw [← fE_diag n a hal] at this
              exact this.congr (fun i j _ _ => MT_skip _ _ _ _ _ (by unfold FF; rw [if_pos rfl]))
            have HX := Lib.hid (nought_s b g C T _ _ HK.out.rd)
            clear HK
            go_wp2_with fail
            refine HX.out.mono ?_
            rintro r w1 ⟨rfl, h1, h2⟩
            have HN := Lib.hid (FN.out w1 h1 h2)
            clear FN HX h1 h2
            go_wp2
            go_roundw
            case rel => exact ⟨a + 1, by omega, by go_num, HN⟩
            case measure => simp [intOf]; omega
          · have d0 : ((a : Int) == (c : Int)) = false := by simp; omega
            have FN : Hid (∀ w1, RS b g C T (adv (steps (fE n) T s (a * n + c)) (eE (tk T (steps (fE n) T s (a * n + c)).p))) w1 → wr.grownBy w1 (some b) → FS b g C T B gc n gs (steps (fE n) T s (a * n + c + 1)) (MT (FF T s n) a c) w w1) := fun w1 h1 h2 => by
              have := HK.out.call h1 h2
              rw [← fE_off n a c hal hcn hac] at this
              exact this
            have HX := Lib.hid (entry_s b g C T _ _ HK.out.rd)
            have HV : (tk T (steps (fE n) T s (a * n + c)).p).num = FF T s n a c := by unfold FF vn; rw [if_neg hac]
            rw [HV] at HX
            clear HK HV hac
            go_wp2_with fail
            refine HX.out.mono ?_
            rintro r w1 ⟨rfl, h1, h2⟩
            have HN := Lib.hid (FN.out w1 h1 h2)
            have c5 := HN.out.tb.cellAt hal hcn
            have f5 := HN.out.tb.frozen hal c
            have HN2 := Lib.hid ((HN.out.store hal hcn (FF T s n a c)).congr (fun i j _ _ => MT_set _ a c i j))
            clear FN HX h1 h2 HN
            go_wp2
            go_roundw
            case rel => exact ⟨c + 1, by omega, by go_num, HN2⟩
            case measure => simp [intOf]; omega
        · obtain rfl : c = n := by omega
          have HN := Lib.hid (fs_row HK.out (show _ = steps (fE c) T s ((a + 1) * c) by rw [Nat.succ_mul]))
          clear HK
          go_wp2
          go_roundw
          case rel => exact ⟨a + 1, by omega, by go_num, HN⟩
          case measure => simp [intOf]; omega
    · obtain rfl : a = n := by omega
      have FN := Lib.hid (HC.out.congr (fun i j hi _ => MT_all _ a i j hi))
      clear HC
      go_wp2
      exact bodyPost_end (results_none rfl _ _ _) rfl ⟨rfl, FN.out⟩
end Go.Proofs.YtjlaankgfpjeeaaDoor

/-
  assignment.
-/
namespace Go.Proofs.YtjlaankgfpjeeaaDoor
open Go.RowKit
set_option linter.unusedVariables false
theorem nOf_le (T : List Tok) (s : St) (most : Nat) : nOf T s most ≤ most := by
  unfold nOf
  split
  · rename_i q
    obtain ⟨q1, q2⟩ := sf_ok q.2
    unfold nf at q1
    split at q1
    · omega
    · split at q1
      · omega
      · split at q1
        · omega
        · omega
  · omega
theorem nOf_int {T : List Tok} (hT : Toks T) (s : St) (most : Int) : (if s.f = 0 ∧ sf (tk T s.p) most = 0 then (tk T s.p).num else 0) = (nOf T s most : Int) := by
  unfold nOf
  split
  · have := hT.num s.p; omega
  · rfl
theorem TBL.le {B B' gc n : Nat} {gs : Nat → Nat} {M : Nat → Nat → Int} {w : World} (h : TBL B gc n gs M w) (hB : B' ≤ B) : TBL B' gc n gs M w :=
  ⟨Go.Joins.ownsRow_le h.top hB, fun j hj => Go.Joins.ownsRow_le (h.rows j hj) hB, h.inj⟩
theorem TBL.set {B gc n : Nat} {gs : Nat → Nat} {M : Nat → Nat → Int} {w : World} (h : TBL B gc n gs M w) {q : Nat} (hq : q < B) (j : Nat) (v : Value) : TBL B gc n gs M (w.setCell ⟨q, j, none⟩ v) :=
  ⟨ownsRow_setCell_below (a := ⟨q, j, none⟩) h.top hq v, fun i hi => ownsRow_setCell_below (a := ⟨q, j, none⟩) (h.rows i hi) hq v, h.inj⟩
theorem grown_set {w wr : World} {g b j : Nat} (h : w.grownBy wr (some g)) (hb : w.heap.size ≤ b) (v : Value) : w.grownBy (wr.setCell ⟨b, j, none⟩ v) (some g) :=
  ⟨h.os, h.tape, h.output, by simpa [World.setCell] using h.size, fun i hi hne => (heap_setCell_other wr ⟨b, j, none⟩ i v (by show i ≠ b; omega)).trans (h.block i hi hne)⟩
theorem grown_below {w wr w1 : World} {g : Nat} (h : w.grownBy wr (some g)) (hb : Below wr.heap.size wr w1) : w.grownBy w1 (some g) :=
  ⟨hb.os.trans h.os, hb.tape.trans h.tape, hb.output.trans h.output, Nat.le_trans h.size hb.size, fun i hi hne => (hb.block i (Nat.lt_of_lt_of_le hi h.size)).trans (h.block i hi hne)⟩
theorem grown_up {w wr w1 : World} {g B : Nat} (h : w.grownBy wr (some g)) (hB : w.heap.size ≤ B) (hb : Up B g wr w1) : w.grownBy w1 (some g) :=
  ⟨hb.os.trans h.os, hb.tape.trans h.tape, hb.output.trans h.output, Nat.le_trans h.size hb.size, fun i hi hne => (hb.block i (Nat.lt_of_lt_of_le hi hB) (fun e => hne (by rw [e]))).trans (h.block i hi hne)⟩
def zero6 : Obj := .cells #[.int .i64 0, .int .i64 0, .int .i64 0, .slice none 0 0, .slice none 0 0, .slice none 0 0] 25 (0, 0)
/-- what assignment leaves at a place -/
def FA (T : List Tok) (s : St) (n i j : Nat) : Int := vn eK T s (i * n + j)
/-- the answer is in the box q, and the table behind it -/
theorem out_set {b g C : Nat} {T : List Tok} {B gc n q : Nat} {gs : Nat → Nat} {s : St} {M : Nat → Nat → Int} {w w2 wr : World} {cs : Array Value} (h : FS b g C T B gc n gs s M w2 wr) (hq : wr.heap[q]? = some (.cells cs 25 (0, 0))) (hqB : q < B) (h0 : w.heap.size ≤ q) (hw : w.grownBy w2 (some b)) (v0 v1 v2 v3 v4 v5 : Value) :
    RS b g C T s ((((((wr.setCell ⟨q, 0, none⟩ v0).setCell ⟨q, 1, none⟩ v1).setCell ⟨q, 2, none⟩ v2).setCell ⟨q, 3, none⟩ v3).setCell ⟨q, 4, none⟩ v4).setCell ⟨q, 5, none⟩ v5) ∧
    TBL w.heap.size gc n gs M ((((((wr.setCell ⟨q, 0, none⟩ v0).setCell ⟨q, 1, none⟩ v1).setCell ⟨q, 2, none⟩ v2).setCell ⟨q, 3, none⟩ v3).setCell ⟨q, 4, none⟩ v4).setCell ⟨q, 5, none⟩ v5) ∧
    w.grownBy ((((((wr.setCell ⟨q, 0, none⟩ v0).setCell ⟨q, 1, none⟩ v1).setCell ⟨q, 2, none⟩ v2).setCell ⟨q, 3, none⟩ v3).setCell ⟨q, 4, none⟩ v4).setCell ⟨q, 5, none⟩ v5) (some b) := by
  obtain ⟨h1, h2⟩ := h.rd.far hq (by decide) (by decide)
  refine ⟨?_, ?_, ?_⟩
  · exact (((((h.rd.set h1 h2 0 v0).set h1 h2 1 v1).set h1 h2 2 v2).set h1 h2 3 v3).set h1 h2 4 v4).set h1 h2 5 v5
  · exact ((((((h.tb.set hqB 0 v0).set hqB 1 v1).set hqB 2 v2).set hqB 3 v3).set hqB 4 v4).set hqB 5 v5).le (by omega)
  · exact grown_set (grown_set (grown_set (grown_set (grown_set (grown_set (grown_up hw (by omega) h.up) h0 v0) h0 v1) h0 v2) h0 v3) h0 v4) h0 v5
/-- what assignment and tour answer -/
def TPost (K : Int) (b g C : Nat) (T : List Tok) (s' : St) (n : Nat) (M : Nat → Nat → Int) (w : World) (r : Ending) (w' : World) : Prop :=
  ∃ (gc : Nat) (gs : Nat → Nat), r = .returned (.agg #[.int .i64 K, .int .i64 n, .int .i64 0, .slice none 0 0, .slice none 0 0, .slice (some ⟨gc, 0, none⟩) n n]) ∧ RS b g C T s' w' ∧ TBL w.heap.size gc n gs M w' ∧ w.grownBy w' (some b)
set_option maxRecDepth 100000 in
set_option maxHeartbeats 4000000 in
theorem assign_s (b g C : Nat) (T : List Tok) (s : St) (w : World) (hr : RS b g C T s w) :
    Calls Tryd.prog 46 #[.pointer (some ⟨b, 0, none⟩)] w (TPost 2 b g C T (aSt T s) (nOf T s 24) (FA T (sz T s 24) (nOf T s 24)) w) := by
  have HZ := Lib.hid (size_s b g C T s 24 (w.alloc zero6) (hr.alloc zero6))
  rw [nOf_int hr.form] at HZ
  have hq0 : (w.alloc zero6).heap[w.heap.size]? = some zero6 := heap_alloc_new w zero6
  have hg0 : w.grownBy (w.alloc zero6) (some b) := World.grownBy_alloc w _ _
  have hrb := hr.ltb.1
  have hn := nOf_le T s 24
  have hs0 : (w.alloc zero6).heap.size = w.heap.size + 1 := by simp
  unfold aSt
  obtain ⟨S, hS⟩ : ∃ S, S = sz T s 24 := ⟨_, rfl⟩
  rw [← hS]
  have HZ2 : Hid (Calls Tryd.prog 59 #[.pointer (some ⟨b, 0, none⟩), .int .i64 24] (w.alloc zero6) fun r w' => r = .returned (.int .i64 (nOf T s 24)) ∧ RS b g C T S w' ∧ (w.alloc zero6).grownBy w' (some b)) := by rw [hS]; exact HZ
  clear HZ hS hr
  generalize nOf T s 24 = n at *
  have Q0 : Hid ((w.alloc zero6).heap[w.heap.size]? = some zero6 ∧ w.grownBy (w.alloc zero6) (some b) ∧ b < w.heap.size ∧ (w.alloc zero6).heap.size = w.heap.size + 1) := ⟨hq0, hg0, hrb, hs0⟩
  clear hq0 hg0 hrb hs0
  unfold zero6 at HZ2 Q0
  go_enter Tryd.func46, Tryd.ntmps46
  go_wp2_with fail
  refine HZ2.out.mono ?_
  rintro r w1 ⟨rfl, hR1, hG1⟩
  have HS := Lib.hid (square_any n hn w1)
  have Q1 : Hid (w1.heap[w.heap.size]? = some (.cells #[.int .i64 0, .int .i64 0, .int .i64 0, .slice none 0 0, .slice none 0 0, .slice none 0 0] 25 (0, 0)) ∧ w.grownBy w1 (some b) ∧ w.heap.size < w1.heap.size ∧ w.heap.size ≠ b) := by
    obtain ⟨a1, a2, a3, a4⟩ := Q0.out
    exact ⟨(hG1.block _ (by omega) (fun e => by injection e with e; omega)).trans a1, a2.trans hG1, by have := hG1.size; omega, by omega⟩
  have R1 := Lib.hid hR1
  clear HZ2 Q0 hR1 hG1
  go_wp2_with fail
  refine HS.out.mono ?_
  rintro r w2 ⟨gc, gs, rfl, hT2, hB2⟩
  obtain ⟨BB, hBB⟩ : ∃ BB, BB = w1.heap.size := ⟨_, rfl⟩
  have K1 : Hid (FS b g C T BB gc n gs (steps eK T S (0 * n)) (MT (FA T S n) 0 0) w2 w2) := by
    rw [hBB]
    exact ⟨by rw [Nat.zero_mul]; exact R1.out.up hB2, hT2.congr (fun i j _ _ => (MT_zero _ i j).symm), Up.refl _ _ _, hB2.size⟩
  have Q2 : Hid (w2.heap[w.heap.size]? = some (.cells #[.int .i64 0, .int .i64 0, .int .i64 0, .slice none 0 0, .slice none 0 0, .slice none 0 0] 25 (0, 0)) ∧ w.grownBy w2 (some b) ∧ w.heap.size < BB ∧ w.heap.size ≠ b) := by
    obtain ⟨a1, a2, a3, a4⟩ := Q1.out
    rw [hBB]
    exact ⟨(hB2.block _ a3).trans a1, grown_below a2 hB2, a3, a4⟩
  clear HS Q1 R1 hT2 hB2 hBB
  go_wp2
  go_loopw [14] (fun i wr => ∃ (a : Nat), a ≤ n ∧ i = .int .i64 a ∧ Hid (FS b g C T BB gc n gs (steps eK T S (a * n)) (MT (FA T S n) a 0) w2 wr)) (fun i _ => n - (intOf i).toNat)
  case atStart => exact ⟨0, by omega, rfl, K1⟩
  case round =>
    clear K1
    obtain ⟨a, ha, rfl, HC⟩ := hrel
    by_cases hal : a < n
    · have q1 : (a : Int) < (n : Int) := by omega
      have q2 : (0 : Int) ≤ (a : Int) := by omega
      have c0 := HC.out.tb.rowAt hal
      have HK0 : Hid (FS b g C T BB gc n gs (steps eK T S (a * n + 0)) (MT (FA T S n) a 0) w2 wr) := HC
      clear HC
      go_wp2
      clear c0
      go_loopw [20] (fun i wr2 => ∃ c : Nat, c ≤ n ∧ i = .int .i64 c ∧ Hid (FS b g C T BB gc n gs (steps eK T S (a * n + c)) (MT (FA T S n) a c) w2 wr2)) (fun i _ => n - (intOf i).toNat)
      case atStart => exact ⟨0, by omega, rfl, HK0⟩
      case round =>
        clear HK0
        obtain ⟨c, hc, rfl, HK⟩ := hrel
        by_cases hcn : c < n
        · have q3 : (c : Int) < (n : Int) := by omega
          have q4 : (0 : Int) ≤ (c : Int) := by omega
          have FN : Hid (∀ w1, RS b g C T (adv (steps eK T S (a * n + c)) (eE (tk T (steps eK T S (a * n + c)).p))) w1 → wr.grownBy w1 (some b) → FS b g C T BB gc n gs (steps eK T S (a * n + c + 1)) (MT (FA T S n) a c) w2 w1) := fun w1 h1 h2 => HK.out.call h1 h2
          have HX := Lib.hid (entry_s b g C T _ _ HK.out.rd)
          have HV : (tk T (steps eK T S (a * n + c)).p).num = FA T S n a c := rfl
          rw [HV] at HX
          clear HK HV
          go_wp2_with fail
          refine HX.out.mono ?_
          rintro r w1 ⟨rfl, h1, h2⟩
          have HN := Lib.hid (FN.out w1 h1 h2)
          have c5 := HN.out.tb.cellAt hal hcn
          have f5 := HN.out.tb.frozen hal c
          have HN2 := Lib.hid ((HN.out.store hal hcn (FA T S n a c)).congr (fun i j _ _ => MT_set _ a c i j))
          clear FN HX h1 h2 HN
          go_wp2
          go_roundw
          case rel => exact ⟨c + 1, by omega, by go_num, HN2⟩
          case measure => simp [intOf]; omega
        · obtain rfl : c = n := by omega
          have HN : Hid (FS b g C T BB gc c gs (steps eK T S ((a + 1) * c)) (MT (FA T S c) (a + 1) 0) w2 wr) := fs_row HK.out (by rw [Nat.succ_mul])
          clear HK
          go_wp2
          go_roundw
          case rel => exact ⟨a + 1, by omega, by go_num, HN⟩
          case measure => simp [intOf]; omega
    · obtain rfl : a = n := by omega
      have FN := Lib.hid (HC.out.congr (fun i j hi _ => MT_all _ a i j hi))
      obtain ⟨q0, hw2, hqB, hqb⟩ := Q2.out
      have hq := (FN.out.up.block _ hqB hqb).trans q0
      have HO := Lib.hid (out_set FN.out hq hqB (Nat.le_refl _) hw2 (.int .i64 2) (.int .i64 a) (.int .i64 0) (.slice none 0 0) (.slice none 0 0) (.slice (some ⟨gc, 0, none⟩) a a))
      obtain ⟨z0, z1, z2, z3, z4, z5⟩ := ip.box6 hq
      have zf := ip.fr6 hq
      have f0 := zf 0; have f1 := zf 1; have f2 := zf 2; have f3 := zf 3; have f4 := zf 4; have f5 := zf 5
      have hq6 := ip.six hq (.int .i64 2) (.int .i64 a) (.int .i64 0) (.slice none 0 0) (.slice none 0 0) (.slice (some ⟨gc, 0, none⟩) a a)
      have R6 := Lib.hid (ip.box6 hq6)
      clear HC FN Q2 q0 hw2 hqB hqb hq zf hq6
      go_wp2
      obtain ⟨r0, r1, r2, r3, r4, r5⟩ := R6.out
      exact bodyPost_ret (v := .agg #[.int .i64 2, .int .i64 a, .int .i64 0, .slice none 0 0, .slice none 0 0, .slice (some ⟨gc, 0, none⟩) a a]) (by simp [results, Tryd.results46, go_sem, r0, r1, r2, r3, r4, r5]) rfl ⟨gc, gs, rfl, HO.out⟩
end Go.Proofs.YtjlaankgfpjeeaaDoor

/-
  upper.
-/
namespace Go.Proofs.YtjlaankgfpjeeaaDoor
open Go.RowKit
set_option linter.unusedVariables false
/-- a mirror of which the places ahead of (a, b), above the middle, are told -/
def UT (F : Nat → Nat → Int) (a b i j : Nat) : Int := if i = j then 0 else if i < j then (if i < a ∨ (i = a ∧ j < b) then F i j else 0) else (if j < a ∨ (j = a ∧ i < b) then F j i else 0)
theorem UT_zero (F : Nat → Nat → Int) (i j : Nat) : UT F 0 1 i j = 0 := by
  unfold UT
  by_cases h : i = j
  · rw [if_pos h]
  · rw [if_neg h]
    by_cases q : i < j
    · rw [if_pos q, if_neg (by omega)]
    · rw [if_neg q, if_neg (by omega)]
theorem UT_set (F : Nat → Nat → Int) (a b i j : Nat) (h : a < b) : upd (upd (UT F a b) a b (F a b)) b a (F a b) i j = UT F a (b + 1) i j := by
  unfold upd UT
  by_cases h1 : i = b ∧ j = a
  · rw [if_pos h1, if_neg (by omega), if_neg (by omega), if_pos (by omega), h1.1, h1.2]
  · rw [if_neg h1]
    by_cases h2 : i = a ∧ j = b
    · rw [if_pos h2, if_neg (by omega), if_pos (by omega), if_pos (by omega), h2.1, h2.2]
    · rw [if_neg h2]
      by_cases e : i = j
      · rw [if_pos e, if_pos e]
      · rw [if_neg e, if_neg e]
        by_cases q : i < j
        · rw [if_pos q, if_pos q]
          by_cases r : i < a ∨ (i = a ∧ j < b)
          · rw [if_pos r, if_pos (by omega)]
          · rw [if_neg r, if_neg (by omega)]
        · rw [if_neg q, if_neg q]
          by_cases r : j < a ∨ (j = a ∧ i < b)
          · rw [if_pos r, if_pos (by omega)]
          · rw [if_neg r, if_neg (by omega)]
theorem UT_row (F : Nat → Nat → Int) (a n i j : Nat) (hi : i < n) (hj : j < n) : UT F a n i j = UT F (a + 1) (a + 1 + 1) i j := by
  unfold UT
  by_cases e : i = j
  · rw [if_pos e, if_pos e]
  · rw [if_neg e, if_neg e]
    by_cases q : i < j
    · rw [if_pos q, if_pos q]
      by_cases r : i < a ∨ (i = a ∧ j < n)
      · rw [if_pos r, if_pos (by omega)]
      · rw [if_neg r, if_neg (by omega)]
    · rw [if_neg q, if_neg q]
      by_cases r : j < a ∨ (j = a ∧ i < n)
      · rw [if_pos r, if_pos (by omega)]
      · rw [if_neg r, if_neg (by omega)]
theorem UT_all (F : Nat → Nat → Int) (n i j : Nat) (hi : i < n) (hj : j < n) : UT F n (n + 1) i j = if i = j then 0 else if i < j then F i j else F j i := by
  unfold UT
  by_cases e : i = j
  · rw [if_pos e, if_pos e]
  · rw [if_neg e, if_neg e]
    by_cases q : i < j
    · rw [if_pos q, if_pos q, if_pos (by omega)]
    · rw [if_neg q, if_neg q, if_pos (by omega)]
attribute [irreducible] UT
/-- what upper reads for a place above the middle -/
def FU (T : List Tok) (s : St) (n i j : Nat) : Int := vn eK T s (rs n i + (j - i - 1))
def MM (T : List Tok) (s : St) (n i j : Nat) : Int := if i = j then 0 else if i < j then FU T s n i j else FU T s n j i
set_option maxRecDepth 100000 in
set_option maxHeartbeats 4000000 in
theorem upper_s (b g C : Nat) (T : List Tok) (s : St) (n : Nat) (n2 : n ≤ 24) (B gc : Nat) (gs : Nat → Nat) (w : World) (hr : RS b g C T s w) (ht : TBL B gc n gs (fun _ _ => 0) w) (hB : B ≤ w.heap.size) :
    Calls Tryd.prog 63 #[.pointer (some ⟨b, 0, none⟩), .slice (some ⟨gc, 0, none⟩) n n] w fun r w' => r = .returned (.tuple #[]) ∧ FS b g C T B gc n gs (steps eK T s (rs n n)) (MM T s n) w w' := by
  have K1 : Hid (FS b g C T B gc n gs (steps eK T s (rs n 0)) (UT (FU T s n) 0 (0 + 1)) w w) := ⟨hr, ht.congr (fun i j _ _ => (UT_zero _ i j).symm), Up.refl _ _ _, hB⟩
  clear hr ht hB
  go_enter Tryd.func63, Tryd.ntmps63
  go_wp2
  go_loopw [8] (fun i wr => ∃ (a : Nat), a ≤ n ∧ i = .int .i64 a ∧ Hid (FS b g C T B gc n gs (steps eK T s (rs n a)) (UT (FU T s n) a (a + 1)) w wr)) (fun i _ => n - (intOf i).toNat)
  case atStart => exact ⟨0, by omega, rfl, K1⟩
  case round =>
    clear K1
    obtain ⟨a, ha, rfl, HC⟩ := hrel
    by_cases hal : a < n
    · have q1 : (a : Int) < (n : Int) := by omega
      have q2 : (0 : Int) ≤ (a : Int) := by omega
      have HK0 : Hid (FS b g C T B gc n gs (steps eK T s (rs n a + (a + 1 - a - 1))) (UT (FU T s n) a (a + 1)) w wr) := by rw [show rs n a + (a + 1 - a - 1) = rs n a by omega]; exact HC
      clear HC
      go_wp2
      go_loopw [5] (fun i wr2 => ∃ c : Nat, a + 1 ≤ c ∧ c ≤ n ∧ i = .int .i64 c ∧ Hid (FS b g C T B gc n gs (steps eK T s (rs n a + (c - a - 1))) (UT (FU T s n) a c) w wr2)) (fun i _ => n - (intOf i).toNat)
      case atStart => exact ⟨a + 1, by omega, by omega, by go_num, HK0⟩
      case round =>
        clear HK0
        obtain ⟨c, hac, hc, rfl, HK⟩ := hrel
        by_cases hcn : c < n
        · have q3 : (c : Int) < (n : Int) := by omega
          have q4 : (0 : Int) ≤ (c : Int) := by omega
          have FN : Hid (∀ w1, RS b g C T (adv (steps eK T s (rs n a + (c - a - 1))) (eE (tk T (steps eK T s (rs n a + (c - a - 1))).p))) w1 → wr.drew.grownBy w1 (some b) → FS b g C T B gc n gs (steps eK T s (rs n a + (c - a - 1) + 1)) (UT (FU T s n) a c) w w1) := fun w1 h1 h2 => HK.out.drew.call h1 h2
          have HX := Lib.hid (entry_s b g C T _ _ HK.out.drew.rd)
          have HV : (tk T (steps eK T s (rs n a + (c - a - 1))).p).num = FU T s n a c := rfl
          rw [HV] at HX
          have c0 := HK.out.drew.tb.rowAt hal
          clear HK HV
          go_wp2
          go_region_held3 (fun w' => w'.cell? ⟨gc, a, none⟩ = some (.slice (some ⟨gs a, 0, none⟩) n n)) (first | exact c0 | exact c1 | exact c2)
            (first
              | (go_at_call 61; refine HX.out.mono ?_; rintro r w1 ⟨rfl, h1, h2⟩; have HN := Lib.hid (FN.out w1 h1 h2); have c1 := HN.out.tb.rowAt hal; have c5 := HN.out.tb.cellAt hal hcn; have f5 := HN.out.tb.frozen hal c; have HN2 := Lib.hid (HN.out.store hal hcn (FU T s n a c)); have c2 := HN2.out.tb.rowAt hal; clear h1 h2))
          clear c0 c1 c5 f5
          have d1 := HN2.out.drew.tb.rowAt hal
          have d2 := HN2.out.drew.tb.rowAt hcn
          have d3 := HN2.out.drew.tb.cellAt hal hcn
          have HV2 : upd (UT (FU T s n) a c) a c (FU T s n a c) a c = FU T s n a c := by unfold upd; rw [if_pos ⟨rfl, rfl⟩]
          rw [HV2] at d3
          have c5 := HN2.out.drew.tb.cellAt hcn hal
          have f5 := HN2.out.drew.tb.frozen hcn a
          have HN3 := HN2.out.drew.store hcn hal (FU T s n a c)
          have e1 := HN3.tb.rowAt hal
          have e2 := HN3.tb.rowAt hcn
          have e3 := HN3.tb.cellAt hal hcn
          have HV3 : upd (upd (UT (FU T s n) a c) a c (FU T s n a c)) c a (FU T s n a c) a c = FU T s n a c := by unfold upd; rw [if_neg (by omega), if_pos ⟨rfl, rfl⟩]
          rw [HV3] at e3
          have HN4 := Lib.hid (HN3.congr (fun i j _ _ => UT_set _ a c i j (by omega)))
          clear HN2 HN3 HV2 HV3 HN c2 FN HX
          go_wp2
          go_region_held3 (fun w' => w'.cell? ⟨gc, a, none⟩ = some (.slice (some ⟨gs a, 0, none⟩) n n) ∧ w'.cell? ⟨gc, c, none⟩ = some (.slice (some ⟨gs c, 0, none⟩) n n) ∧ w'.cell? ⟨gs a, c, none⟩ = some (.int .i64 (FU T s n a c))) (first | exact ⟨d1, d2, d3⟩ | exact ⟨e1, e2, e3⟩)
            (fail)
          clear d1 d2 d3 e1 e2 e3 c5 f5
          rw [show rs n a + (c - a - 1) + 1 = rs n a + (c + 1 - a - 1) by omega] at HN4
          go_wp2
          go_roundw
          case rel => exact ⟨c + 1, by omega, by omega, by go_num, HN4⟩
          case measure => simp [intOf]; omega
        · obtain rfl : c = n := by omega
          have HN : Hid (FS b g C T B gc c gs (steps eK T s (rs c (a + 1))) (UT (FU T s c) (a + 1) (a + 1 + 1)) w wr) := by
            have e : rs c (a + 1) = rs c a + (c - a - 1) := by show rs c a + (c - 1 - a) = _; omega
            rw [e]
            exact HK.out.congr (fun i j hi hj => UT_row _ a c i j hi hj)
          clear HK
          go_wp2
          go_roundw
          case rel => exact ⟨a + 1, by omega, by go_num, HN⟩
          case measure => simp [intOf]; omega
    · obtain rfl : a = n := by omega
      have FN := Lib.hid (HC.out.congr (fun i j hi hj => UT_all _ a i j hi hj))
      clear HC
      go_wp2
      exact bodyPost_end (results_none rfl _ _ _) rfl ⟨rfl, FN.out⟩
end Go.Proofs.YtjlaankgfpjeeaaDoor

/-
  tour.
-/
namespace Go.Proofs.YtjlaankgfpjeeaaDoor
open Go.RowKit
set_option linter.unusedVariables false
theorem ix2 (x : ByteArray) : ixF [wFull, wUpper] x 0 = idx2 x := by
  rw [ixF_cons, ixF_cons, ixF_nil]
  unfold idx2
  rfl
theorem ix3 (x : ByteArray) : ixF [nm1, nm2, nm3] x 0 = idx3 x := by
  rw [ixF_cons, ixF_cons, ixF_cons, ixF_nil]
  unfold idx3
  rfl
/-- the two words in a block -/
def two : Obj := .cells #[.string ⟨#[70, 85, 76, 76]⟩, .string ⟨#[85, 80, 80, 69, 82]⟩] 9 (0, 0)
theorem word2_s (b g C : Nat) (T : List Tok) (s : St) (w : World) (h : RS b g C T s w) :
    Calls Tryd.prog 45 #[.pointer (some ⟨b, 0, none⟩), .slice (some ⟨w.heap.size, 0, none⟩) 2 2] (w.alloc two) fun r w' => r = .returned (.int .i64 (idx2 (tk T s.p).text)) ∧ RS b g C T (s3 T s) w' ∧ (w.alloc two).grownBy w' (some b) := by
  have hc : ∀ j, j < [wFull, wUpper].length → (w.alloc two).cell? ⟨w.heap.size, j, none⟩ = some (.string ([wFull, wUpper][j]?.getD noText)) := fun j hj => by
    rw [cell_of_row _ _ _ _ _ _ (show (w.alloc two).heap[w.heap.size]? = some two from heap_alloc_new w two)]
    match j, hj with
    | 0, _ => rfl
    | 1, _ => rfl
  have H := word_core b g C T s (tk T s.p) rfl [wFull, wUpper] w.heap.size 2 (w.alloc two) (h.alloc two) (by decide) hc (idx2 (tk T s.p).text) (ix2 _).symm
  exact H
/-- what the two ways leave -/
def FT (T : List Tok) (s : St) (n : Nat) (i : Int) : Nat → Nat → Int := if i = 0 then FF T s n else MM T s n
def tEnd (T : List Tok) (s : St) (n : Nat) (i : Int) : St := if i = 0 then steps (fE n) T s (n * n) else steps eK T s (rs n n)
set_option maxRecDepth 100000 in
set_option maxHeartbeats 4000000 in
theorem tour_s (b g C : Nat) (T : List Tok) (s : St) (w : World) (hr : RS b g C T s w) :
    Calls Tryd.prog 47 #[.pointer (some ⟨b, 0, none⟩)] w (TPost 3 b g C T (tSt T s) (nOf T s 24) (FT T (s3 T (sz T s 24)) (nOf T s 24) (idx2 (tk T (sz T s 24).p).text)) w) := by
  have HZ := Lib.hid (size_s b g C T s 24 (w.alloc zero6) (hr.alloc zero6))
  rw [nOf_int hr.form] at HZ
  have hq0 : (w.alloc zero6).heap[w.heap.size]? = some zero6 := heap_alloc_new w zero6
  have hg0 : w.grownBy (w.alloc zero6) (some b) := World.grownBy_alloc w _ _
  have hrb := hr.ltb.1
  have hn := nOf_le T s 24
  have hs0 : (w.alloc zero6).heap.size = w.heap.size + 1 := by simp
  obtain ⟨S, hS⟩ : ∃ S, S = sz T s 24 := ⟨_, rfl⟩
  obtain ⟨i, hi⟩ : ∃ i, i = idx2 (tk T S.p).text := ⟨_, rfl⟩
  have hE : tSt T s = tEnd T (s3 T S) (nOf T s 24) i := by unfold tSt tEnd; rw [hi, hS]
  rw [hE, ← hS, ← hi]
  have HZ2 : Hid (Calls Tryd.prog 59 #[.pointer (some ⟨b, 0, none⟩), .int .i64 24] (w.alloc zero6) fun r w' => r = .returned (.int .i64 (nOf T s 24)) ∧ RS b g C T S w' ∧ (w.alloc zero6).grownBy w' (some b)) := by rw [hS]; exact HZ
  have HI := Lib.hid hi
  clear HZ hS hr hE hi
  generalize nOf T s 24 = n at *
  have Q0 : Hid ((w.alloc zero6).heap[w.heap.size]? = some zero6 ∧ w.grownBy (w.alloc zero6) (some b) ∧ b < w.heap.size ∧ (w.alloc zero6).heap.size = w.heap.size + 1) := ⟨hq0, hg0, hrb, hs0⟩
  clear hq0 hg0 hrb hs0
  unfold zero6 at HZ2 Q0
  unfold FT tEnd
  by_cases hi0 : i = 0
  all_goals
    simp only [hi0, if_true, if_false]
    have HW0 := Lib.hid hi0
    go_enter Tryd.func47, Tryd.ntmps47
    go_wp2_with fail
    refine HZ2.out.mono ?_
    rintro r w1 ⟨rfl, hR1, hG1⟩
    have HS := Lib.hid (square_any n hn w1)
    have Q1 : Hid (w1.heap[w.heap.size]? = some (.cells #[.int .i64 0, .int .i64 0, .int .i64 0, .slice none 0 0, .slice none 0 0, .slice none 0 0] 25 (0, 0)) ∧ w.grownBy w1 (some b) ∧ w.heap.size < w1.heap.size ∧ w.heap.size ≠ b) := by
      obtain ⟨a1, a2, a3, a4⟩ := Q0.out
      exact ⟨(hG1.block _ (by omega) (fun e => by injection e with e; omega)).trans a1, a2.trans hG1, by have := hG1.size; omega, by omega⟩
    have R1 := Lib.hid hR1
    clear HZ2 Q0 hR1 hG1
    go_wp2_with fail
    refine HS.out.mono ?_
    rintro r w2 ⟨gc, gs, rfl, hT2, hB2⟩
    obtain ⟨BB, hBB⟩ : ∃ BB, BB = w1.heap.size := ⟨_, rfl⟩
    have R2 : Hid (RS b g C T S w2 ∧ TBL BB gc n gs (fun _ _ => 0) w2 ∧ BB ≤ w2.heap.size) := by
      rw [hBB]
      exact ⟨R1.out.up hB2, hT2, hB2.size⟩
    have Q2 : Hid (w2.heap[w.heap.size]? = some (.cells #[.int .i64 0, .int .i64 0, .int .i64 0, .slice none 0 0, .slice none 0 0, .slice none 0 0] 25 (0, 0)) ∧ w.grownBy w2 (some b) ∧ w.heap.size < BB ∧ w.heap.size ≠ b) := by
      obtain ⟨a1, a2, a3, a4⟩ := Q1.out
      rw [hBB]
      exact ⟨(hB2.block _ a3).trans a1, grown_below a2 hB2, a3, a4⟩
    clear HS Q1 R1 hT2 hB2 hBB
    have HW := Lib.hid (word2_s b g C T S w2 R2.out.1)
    rw [← HI.out] at HW
    unfold two at HW
    have HG : Hid (∀ w3, (w2.alloc two).grownBy w3 (some b) → w2.grownBy w3 (some b)) := fun w3 h => (World.grownBy_alloc w2 _ _).trans h
    unfold two at HG
    go_wp2_with fail
    refine HW.out.mono ?_
    rintro r w3 ⟨rfl, hR3, hG3⟩
    have hG := HG.out w3 hG3
    have R3 : Hid (RS b g C T (s3 T S) w3 ∧ TBL BB gc n gs (fun _ _ => 0) w3 ∧ BB ≤ w3.heap.size) := by
      obtain ⟨a1, a2, a3⟩ := R2.out
      exact ⟨hR3, a2.kept hG (by have := a1.box; unfold RD at this; exact this), Nat.le_trans a3 hG.size⟩
    have Q3 : Hid (w3.heap[w.heap.size]? = some (.cells #[.int .i64 0, .int .i64 0, .int .i64 0, .slice none 0 0, .slice none 0 0, .slice none 0 0] 25 (0, 0)) ∧ w.grownBy w3 (some b) ∧ w.heap.size < BB ∧ w.heap.size ≠ b) := by
      obtain ⟨a1, a2, a3, a4⟩ := Q2.out
      obtain ⟨c1, c2, c3⟩ := R2.out
      exact ⟨(hG.block _ (by omega) (fun e => by injection e with e; exact a4 e)).trans a1, a2.trans hG, a3, a4⟩
    clear HW HG hR3 hG3 hG R2 Q2 HI
    skip
  · have d0 : (i == 0) = true := by simpa using hi0
    have HF := Lib.hid (full_s b g C T (s3 T S) n hn BB gc gs w3 R3.out.1 R3.out.2.1 R3.out.2.2)
    clear R3 hi0 HW0
    go_wp2_with fail
    refine HF.out.mono ?_
    rintro r w4 ⟨rfl, hF4⟩
    have FN := Lib.hid hF4
    clear hF4 HF
    obtain ⟨q0, hw2, hqB, hqb⟩ := Q3.out
    have hq := (FN.out.up.block _ hqB hqb).trans q0
    have HO := Lib.hid (out_set FN.out hq hqB (Nat.le_refl _) hw2 (.int .i64 3) (.int .i64 n) (.int .i64 0) (.slice none 0 0) (.slice none 0 0) (.slice (some ⟨gc, 0, none⟩) n n))
    obtain ⟨z0, z1, z2, z3, z4, z5⟩ := ip.box6 hq
    have zf := ip.fr6 hq
    have f0 := zf 0; have f1 := zf 1; have f2 := zf 2; have f3 := zf 3; have f4 := zf 4; have f5 := zf 5
    have hq6 := ip.six hq (.int .i64 3) (.int .i64 n) (.int .i64 0) (.slice none 0 0) (.slice none 0 0) (.slice (some ⟨gc, 0, none⟩) n n)
    have R6 := Lib.hid (ip.box6 hq6)
    clear FN Q3 q0 hw2 hqB hqb hq zf hq6
    go_wp2
    obtain ⟨r0, r1, r2, r3, r4, r5⟩ := R6.out
    exact bodyPost_ret (v := .agg #[.int .i64 3, .int .i64 n, .int .i64 0, .slice none 0 0, .slice none 0 0, .slice (some ⟨gc, 0, none⟩) n n]) (by simp [results, Tryd.results47, go_sem, r0, r1, r2, r3, r4, r5]) rfl ⟨gc, gs, rfl, HO.out⟩
  · have d0 : (i == 0) = false := by simpa using hi0
    have HF := Lib.hid (upper_s b g C T (s3 T S) n hn BB gc gs w3 R3.out.1 R3.out.2.1 R3.out.2.2)
    clear R3 hi0 HW0
    go_wp2_with fail
    refine HF.out.mono ?_
    rintro r w4 ⟨rfl, hF4⟩
    have FN := Lib.hid hF4
    clear hF4 HF
    obtain ⟨q0, hw2, hqB, hqb⟩ := Q3.out
    have hq := (FN.out.up.block _ hqB hqb).trans q0
    have HO := Lib.hid (out_set FN.out hq hqB (Nat.le_refl _) hw2 (.int .i64 3) (.int .i64 n) (.int .i64 0) (.slice none 0 0) (.slice none 0 0) (.slice (some ⟨gc, 0, none⟩) n n))
    obtain ⟨z0, z1, z2, z3, z4, z5⟩ := ip.box6 hq
    have zf := ip.fr6 hq
    have f0 := zf 0; have f1 := zf 1; have f2 := zf 2; have f3 := zf 3; have f4 := zf 4; have f5 := zf 5
    have hq6 := ip.six hq (.int .i64 3) (.int .i64 n) (.int .i64 0) (.slice none 0 0) (.slice none 0 0) (.slice (some ⟨gc, 0, none⟩) n n)
    have R6 := Lib.hid (ip.box6 hq6)
    clear FN Q3 q0 hw2 hqB hqb hq zf hq6
    go_wp2
    obtain ⟨r0, r1, r2, r3, r4, r5⟩ := R6.out
    exact bodyPost_ret (v := .agg #[.int .i64 3, .int .i64 n, .int .i64 0, .slice none 0 0, .slice none 0 0, .slice (some ⟨gc, 0, none⟩) n n]) (by simp [results, Tryd.results47, go_sem, r0, r1, r2, r3, r4, r5]) rfl ⟨gc, gs, rfl, HO.out⟩
end Go.Proofs.YtjlaankgfpjeeaaDoor

/-
  Where the reader's knapsack stands: two lists that grow in rows of their own, behind one box.
-/
namespace Go.Proofs.YtjlaankgfpjeeaaDoor
open Go.RowKit
set_option linter.unusedVariables false
/-- the numbers of the weights' and of the values' places -/
def WL (T : List Tok) (S : St) (k : Nat) : List Int := (List.range k).map fun j => vn eK T S (1 + (j + j))
def VL (T : List Tok) (S : St) (k : Nat) : List Int := (List.range k).map fun j => vn eK T S (1 + (j + j + 1))
theorem WL_len (T : List Tok) (S : St) (k : Nat) : (WL T S k).length = k := by simp [WL]
theorem VL_len (T : List Tok) (S : St) (k : Nat) : (VL T S k).length = k := by simp [VL]
theorem WL_succ (T : List Tok) (S : St) (k : Nat) : WL T S (k + 1) = WL T S k ++ [vn eK T S (1 + (k + k))] := by simp [WL, List.range_succ]
theorem VL_succ (T : List Tok) (S : St) (k : Nat) : VL T S (k + 1) = VL T S k ++ [vn eK T S (1 + (k + k + 1))] := by simp [VL, List.range_succ]
attribute [irreducible] WL VL
def enc (l : List Int) : List Value := l.map (Value.int .i64)
theorem enc_app (l : List Int) (x : Int) : enc (l ++ [x]) = enc l ++ [.int .i64 x] := by simp [enc]
structure KS (b g C : Nat) (T : List Tok) (S : St) (n cp : Int) (gr gi B : Nat) (w : World) (t a c : Nat) (vW vV : Value) (wr : World) : Prop where
  box : wr.heap[gi]? = some (.cells #[.int .i64 1, .int .i64 n, .int .i64 cp, vW, vV, .slice none 0 0] 25 (0, 0))
  res : wr.heap[gr]? = some (.cells #[.int .i64 0, .int .i64 0, .int .i64 0, .slice none 0 0, .slice none 0 0, .slice none 0 0] 25 (0, 0))
  rd : RS b g C T (steps eK T S t) wr
  rw : wr.ownsRow B 3 1 vW a (enc (WL T S a))
  rv : wr.ownsRow B 3 1 vV c (enc (VL T S c))
  ap : ∀ x, vW.ownBlock = some x → vV.ownBlock ≠ some x
  gone : w.grownBy wr (some b)
  sz : B ≤ wr.heap.size
  lo : gi < B
  ne : gr ≠ gi
  base : w.heap.size ≤ gi
theorem RS.rbox {b g C : Nat} {T : List Tok} {s : St} {w : World} (h : RS b g C T s w) : ∃ cs : Array Value, w.heap[b]? = some (.cells cs 61 (0, 0)) := ⟨_, by have := h.box; unfold RD at this; exact this⟩
theorem KS.call {b g C : Nat} {T : List Tok} {S : St} {n cp : Int} {gr gi B : Nat} {w : World} {t a c : Nat} {vW vV : Value} {wr w1 : World} (h : KS b g C T S n cp gr gi B w t a c vW vV wr) (hg : wr.grownBy w1 (some b)) (hd : RS b g C T (steps eK T S (t + 1)) w1) : KS b g C T S n cp gr gi B w (t + 1) a c vW vV w1 := by
  have n1 := (h.rd.far h.box (by decide) (by decide)).1
  have n2 := (h.rd.far h.res (by decide) (by decide)).1
  obtain ⟨cs, hb⟩ := h.rd.rbox
  refine ⟨(hg.block gi (ip.lt_hp h.box) (fun e => n1 (by injection e))).trans h.box, (hg.block gr (ip.lt_hp h.res) (fun e => n2 (by injection e))).trans h.res, hd, h.rw.kept hg (.inr (row_neE h.rw hb (by decide))), h.rv.kept hg (.inr (row_neE h.rv hb (by decide))), h.ap, ?_, Nat.le_trans h.sz hg.size, h.lo, h.ne, h.base⟩
  exact ⟨hg.os.trans h.gone.os, hg.tape.trans h.gone.tape, hg.output.trans h.gone.output, Nat.le_trans h.gone.size hg.size, fun i hi hne => (hg.block i (Nat.lt_of_lt_of_le hi h.gone.size) hne).trans (h.gone.block i hi hne)⟩
theorem KS.alloc {b g C : Nat} {T : List Tok} {S : St} {n cp : Int} {gr gi B : Nat} {w : World} {t a c : Nat} {vW vV : Value} {wr : World} (h : KS b g C T S n cp gr gi B w t a c vW vV wr) (o : Obj) : KS b g C T S n cp gr gi B w t a c vW vV (wr.alloc o) := by
  have hb := fun k (hk : k < wr.heap.size) => Below.heap_alloc wr o k hk
  exact ⟨(hb gi (ip.lt_hp h.box)).trans h.box, (hb gr (ip.lt_hp h.res)).trans h.res, h.rd.alloc o, h.rw.alloc o, h.rv.alloc o, h.ap,
    ⟨h.gone.os, h.gone.tape, h.gone.output, by rw [World.size_alloc]; have := h.gone.size; omega, fun i hi hne => (hb i (Nat.lt_of_lt_of_le hi h.gone.size)).trans (h.gone.block i hi hne)⟩, by rw [World.size_alloc]; have := h.sz; omega, h.lo, h.ne, h.base⟩
theorem KS.drew {b g C : Nat} {T : List Tok} {S : St} {n cp : Int} {gr gi B : Nat} {w : World} {t a c : Nat} {vW vV : Value} {wr : World} (h : KS b g C T S n cp gr gi B w t a c vW vV wr) : KS b g C T S n cp gr gi B w t a c vW vV wr.drew :=
  ⟨h.box, h.res, h.rd.drew, h.rw, h.rv, h.ap, ⟨h.gone.os, h.gone.tape, h.gone.output, h.gone.size, h.gone.block⟩, h.sz, h.lo, h.ne, h.base⟩
/-- what an append to one row and a store into the box leave -/
theorem ks_other {b g C : Nat} {T : List Tok} {S : St} {n cp : Int} {gr gi B : Nat} {w : World} {t a c : Nat} {vW vV : Value} {wr w1 : World} (h : KS b g C T S n cp gr gi B w t a c vW vV wr) {v : Value} {k : Nat} {xs : List Value} (hr : wr.ownsRow B 3 1 v k xs) (hgrow : wr.grownBy w1 v.ownBlock) (j : Nat) (u : Value) :
    (w1.setCell ⟨gi, j, none⟩ u).heap[gi]? = some (.cells (#[.int .i64 1, .int .i64 n, .int .i64 cp, vW, vV, .slice none 0 0].setIfInBounds j u) 25 (0, 0)) ∧
    (w1.setCell ⟨gi, j, none⟩ u).heap[gr]? = some (.cells #[.int .i64 0, .int .i64 0, .int .i64 0, .slice none 0 0, .slice none 0 0, .slice none 0 0] 25 (0, 0)) ∧
    RS b g C T (steps eK T S t) (w1.setCell ⟨gi, j, none⟩ u) ∧ w.grownBy (w1.setCell ⟨gi, j, none⟩ u) (some b) ∧ B ≤ (w1.setCell ⟨gi, j, none⟩ u).heap.size := by
  obtain ⟨n1, n1g⟩ := h.rd.far h.box (by decide) (by decide)
  have q1 := (hgrow.block gi (ip.lt_hp h.box) (fun e => row_neE hr h.box (by decide) e.symm)).trans h.box
  have q2 := (hgrow.block gr (ip.lt_hp h.res) (fun e => row_neE hr h.res (by decide) e.symm)).trans h.res
  have q3 : RS b g C T (steps eK T S t) w1 := by
    obtain ⟨cs, hb⟩ := h.rd.rbox
    obtain ⟨cur, hgg, _⟩ := h.rd.toks
    exact h.rd.keep (hgrow.block b h.rd.ltb.1 (fun e => row_neE hr hb (by decide) e.symm)) (hgrow.block g h.rd.ltb.2 (fun e => row_neE hr hgg (by decide) e.symm))
  have hs : (w1.setCell ⟨gi, j, none⟩ u).heap.size = w1.heap.size := by simp [World.setCell]
  refine ⟨heap_setCell_same w1 gi j _ 25 u q1, (heap_setCell_other w1 ⟨gi, j, none⟩ gr u h.ne).trans q2, q3.set n1 n1g j u, ⟨hgrow.os.trans h.gone.os, hgrow.tape.trans h.gone.tape, hgrow.output.trans h.gone.output, by rw [hs]; exact Nat.le_trans h.gone.size hgrow.size, fun i hi hne => ?_⟩, by rw [hs]; exact Nat.le_trans h.sz hgrow.size⟩
  have hb := h.base
  have hlo := h.lo
  rw [heap_setCell_other w1 ⟨gi, j, none⟩ i u (by show i ≠ gi; omega)]
  exact (hgrow.block i (Nat.lt_of_lt_of_le hi h.gone.size) (fun e => by have := (hr.lt i e.symm).1; omega)).trans (h.gone.block i hi hne)
theorem KS.addW {b g C : Nat} {T : List Tok} {S : St} {n cp : Int} {gr gi B : Nat} {w : World} {t a c : Nat} {vW vV : Value} {wr w1 : World} (h : KS b g C T S n cp gr gi B w t a c vW vV wr) {g' cap : Nat} {x : Int} (hx : x = vn eK T S (1 + (a + a)))
    (hown : w1.ownsRow B 3 1 (.slice (some ⟨g', 0, none⟩) (a + 1) cap) (a + 1) (enc (WL T S a) ++ [.int .i64 x])) (hgrow : wr.grownBy w1 vW.ownBlock) (hl : vW.ownBlock = some g' ∨ g' = wr.heap.size) :
    KS b g C T S n cp gr gi B w t (a + 1) c (.slice (some ⟨g', 0, none⟩) (a + 1) cap) vV (w1.setCell ⟨gi, 3, none⟩ (.slice (some ⟨g', 0, none⟩) (a + 1) cap)) := by
  obtain ⟨o1, o2, o3, o4, o5⟩ := ks_other h h.rw hgrow 3 (.slice (some ⟨g', 0, none⟩) (a + 1) cap)
  have hv : vV.ownBlock = none ∨ vV.ownBlock ≠ vW.ownBlock := by
    cases e : vW.ownBlock with
    | none => cases e2 : vV.ownBlock with
      | none => exact .inl rfl
      | some y => exact .inr (by simp)
    | some y => exact .inr (h.ap y e)
  refine ⟨o1, o2, o3, ?_, ?_, ?_, o4, o5, h.lo, h.ne, h.base⟩
  · rw [WL_succ, enc_app, ← hx]
    exact Go.RowKit.ownsRow_setCell_below hown h.lo _
  · exact Go.RowKit.ownsRow_setCell_below (h.rv.kept hgrow hv) h.lo _
  · intro y hy e
    injection hy with hy
    rcases hl with hl | hl
    · exact h.ap g' hl (by rw [e]; exact congrArg some hy.symm)
    · have := (h.rv.lt y e).2
      have : g' = y := hy
      omega
theorem KS.addV {b g C : Nat} {T : List Tok} {S : St} {n cp : Int} {gr gi B : Nat} {w : World} {t a c : Nat} {vW vV : Value} {wr w1 : World} (h : KS b g C T S n cp gr gi B w t a c vW vV wr) {g' cap : Nat} {x : Int} (hx : x = vn eK T S (1 + (c + c + 1)))
    (hown : w1.ownsRow B 3 1 (.slice (some ⟨g', 0, none⟩) (c + 1) cap) (c + 1) (enc (VL T S c) ++ [.int .i64 x])) (hgrow : wr.grownBy w1 vV.ownBlock) (hl : vV.ownBlock = some g' ∨ g' = wr.heap.size) :
    KS b g C T S n cp gr gi B w t a (c + 1) vW (.slice (some ⟨g', 0, none⟩) (c + 1) cap) (w1.setCell ⟨gi, 4, none⟩ (.slice (some ⟨g', 0, none⟩) (c + 1) cap)) := by
  obtain ⟨o1, o2, o3, o4, o5⟩ := ks_other h h.rv hgrow 4 (.slice (some ⟨g', 0, none⟩) (c + 1) cap)
  have hv : vW.ownBlock = none ∨ vW.ownBlock ≠ vV.ownBlock := by
    cases e : vW.ownBlock with
    | none => exact .inl rfl
    | some y => exact .inr (fun q => h.ap y e q.symm)
  refine ⟨o1, o2, o3, ?_, ?_, ?_, o4, o5, h.lo, h.ne, h.base⟩
  · exact Go.RowKit.ownsRow_setCell_below (h.rw.kept hgrow hv) h.lo _
  · rw [VL_succ, enc_app, ← hx]
    exact Go.RowKit.ownsRow_setCell_below hown h.lo _
  · intro y hy e
    injection e with e
    have e' : g' = y := e
    rcases hl with hl | hl
    · exact h.ap y hy (by rw [hl, e'])
    · have := (h.rw.lt y hy).2
      omega
end Go.Proofs.YtjlaankgfpjeeaaDoor
