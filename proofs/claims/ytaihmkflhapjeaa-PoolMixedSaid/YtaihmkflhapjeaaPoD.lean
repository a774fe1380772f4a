/-
  What New answers.
-/
import Derived.Test.YtaihmkflhapjeaaPoC
import Derived.Deep.DeepCutAuto
namespace Go.Proofs.Ytaihmkflhapjeaa
open Go.RowKit Go.MuLone
set_option linter.unusedVariables false
theorem none_any (w : World) : Calls Try.prog 10 #[] w fun e w' => e = .returned (.pointer none) ∧ w = w' := by
  go_enter Try.func10, Try.ntmps10
  go_wp2
  go_ret
  exact ⟨rfl, rfl⟩
theorem info62 : (Try.prog.info? 62).map (fun i => (i.zero, i.size, i.bytes)) = some (some (.agg #[.slice none 0 0, .int .i64 0]), 2, 32) := by kernel_rfl
theorem info4 : (Try.prog.info? 4).map (fun i => (i.zero, i.size, i.bytes)) = some (some (.bool false), 1, 1) := by kernel_rfl
theorem info36 : (Try.prog.info? 36).map (fun i => (i.zero, i.size, i.bytes)) = some (some (.slice none 0 0), 1, 24) := by kernel_rfl
theorem made_get (z : Array Value) (n j : Nat) (hj : j < n) : (madeCells z n)[j]? = some z[j % z.size]! := by
  simp [madeCells, hj]
theorem mk_n (n : Nat) (h : n ≤ 5000) : ∃ A : Array Value, A.size = 2 * n ∧ (∀ j, j < n → A[2 * j]? = some (.slice none 0 0) ∧ A[2 * j + 1]? = some (.int .i64 0)) ∧ ∀ W : World, (Instr.makeSlice 77 (.int .i64 n) (.int .i64 n)).run Try.prog W = .ok (.slice (some ⟨W.heap.size, 0, none⟩) n n) (W.alloc (.cells A 62)) := by
  obtain ⟨i0, hi, hz0, hz1, hz2⟩ := info_parts info62
  refine ⟨madeCells #[.slice none 0 0, .int .i64 0] (n * 2), by rw [size_madeCells]; omega, fun j hj => ⟨?_, ?_⟩, fun W => ?_⟩
  · rw [made_get _ _ _ (by omega)]
    have e : 2 * j % (#[Value.slice none 0 0, .int .i64 0] : Array Value).size = 0 := by show 2 * j % 2 = 0; omega
    rw [e]; rfl
  · rw [made_get _ _ _ (by omega)]
    have e : (2 * j + 1) % (#[Value.slice none 0 0, .int .i64 0] : Array Value).size = 1 := by show (2 * j + 1) % 2 = 1; omega
    rw [e]; rfl
  · have h := run_make (P := Try.prog) W 77 62 i0 _ Try.underlying77 hi hz0 .i64 .i64 (n : Int) (n : Int) (by omega) (by omega) (by rw [hz2]; omega) (by omega)
    rw [hz1] at h
    simp only [Int.toNat_natCast] at h
    rw [h]
    rfl
theorem mk_h (n : Nat) (h : n ≤ 5000) : ∃ A : Array Value, A.size = n ∧ (∀ j, j < n → A[j]? = some (.bool false)) ∧ ∀ W : World, (Instr.makeSlice 78 (.int .i64 n) (.int .i64 n)).run Try.prog W = .ok (.slice (some ⟨W.heap.size, 0, none⟩) n n) (W.alloc (.cells A 4)) := by
  obtain ⟨i0, hi, hz0, hz1, hz2⟩ := info_parts info4
  refine ⟨madeCells #[.bool false] n, by rw [size_madeCells], fun j hj => ?_, fun W => ?_⟩
  · rw [made_get _ _ _ hj]
    have e : j % (#[Value.bool false] : Array Value).size = 0 := by show j % 1 = 0; omega
    rw [e]; rfl
  · have h := run_make (P := Try.prog) W 78 4 i0 _ Try.underlying78 hi hz0 .i64 .i64 (n : Int) (n : Int) (by omega) (by omega) (by rw [hz2]; omega) (by omega)
    rw [hz1] at h
    simp only [Int.toNat_natCast, Nat.mul_one] at h
    rw [h]
    rfl
theorem mk_o (n : Nat) (h : n ≤ 5000) : ∃ A : Array Value, A.size = n ∧ (∀ j, j < n → A[j]? = some (.slice none 0 0)) ∧ ∀ W : World, (Instr.makeSlice 57 (.int .i64 n) (.int .i64 n)).run Try.prog W = .ok (.slice (some ⟨W.heap.size, 0, none⟩) n n) (W.alloc (.cells A 36)) := by
  obtain ⟨i0, hi, hz0, hz1, hz2⟩ := info_parts info36
  refine ⟨madeCells #[.slice none 0 0] n, by rw [size_madeCells], fun j hj => ?_, fun W => ?_⟩
  · rw [made_get _ _ _ hj]
    have e : j % (#[Value.slice none 0 0] : Array Value).size = 0 := by show j % 1 = 0; omega
    rw [e]; rfl
  · have h := run_make (P := Try.prog) W 57 36 i0 _ Try.underlying57 hi hz0 .i64 .i64 (n : Int) (n : Int) (by omega) (by omega) (by rw [hz2]; omega) (by omega)
    rw [hz1] at h
    simp only [Int.toNat_natCast, Nat.mul_one] at h
    rw [h]
    rfl
/-- a new pool -/
def NewP (g b base n kw : Nat) (l : List Int) (s : Int) (w : World) (v : Value) (wx : World) : Prop := ∃ A : Ad, v = .pointer (some ⟨A.p, 0, none⟩) ∧ A.g = g ∧ A.b = b ∧ A.base = base ∧ A.n = n ∧ A.k = kw ∧ (w.heap.size ≤ A.p ∧ w.heap.size ≤ A.bn ∧ w.heap.size ≤ A.bh ∧ w.heap.size ≤ A.bo) ∧ Po A (fun _ => .slice none 0 0) (fun _ => 0) (fun _ => false) (fun _ => .slice none 0 0) l s wx ∧ Tw [g, b] w wx
theorem hal_new (w : World) (o : Obj) : (w.alloc o).heap[w.heap.size]? = some o := by
  show (w.heap.push o)[w.heap.size]? = _
  simp
theorem al3 (w : World) (X Y Z : Obj) : (((w.alloc X).alloc Y).alloc Z).heap[w.heap.size]? = some X ∧ (((w.alloc X).alloc Y).alloc Z).heap[w.heap.size + 1]? = some Y ∧ (((w.alloc X).alloc Y).alloc Z).heap[w.heap.size + 1 + 1]? = some Z ∧ Below w.heap.size w (((w.alloc X).alloc Y).alloc Z) := by
  have b1 := bl_al (Below.refl _ w) X
  have b2 := bl_al (Below.refl _ (w.alloc X)) Y
  have b3 := bl_al (Below.refl _ ((w.alloc X).alloc Y)) Z
  have s1 : (w.alloc X).heap.size = w.heap.size + 1 := by simp
  have s2 : ((w.alloc X).alloc Y).heap.size = w.heap.size + 1 + 1 := by simp
  have q1 := hal_new w X
  have q2 := hal_new (w.alloc X) Y
  have q3 := hal_new ((w.alloc X).alloc Y) Z
  rw [s1] at q2
  rw [s2] at q3
  exact ⟨(b3.block _ (by omega)).trans ((b2.block _ (by omega)).trans q1), (b3.block _ (by omega)).trans q2, q3, bl_tr (bl_tr b1 b2) b3⟩
theorem new_p {g b base n kw bn bh bo : Nat} {l : List Int} {s k c o m : Int} {d : Bool} {An Ah Ao : Array Value} {w W3 : World} (hm : MB 0 g b l s k c o m d w) (hl : base + 1 + n ≤ l.length) (hl2 : l.length ≤ 5000) (hn : 1 ≤ n) (hn2 : n ≤ 4096) (hk : 1 ≤ kw) (hk2 : kw ≤ 16)
    (an1 : An.size = 2 * n) (an2 : ∀ j, j < n → An[2 * j]? = some (.slice none 0 0) ∧ An[2 * j + 1]? = some (.int .i64 0)) (ah1 : Ah.size = n) (ah2 : ∀ j, j < n → Ah[j]? = some (.bool false)) (ao1 : Ao.size = kw) (ao2 : ∀ j, j < kw → Ao[j]? = some (.slice none 0 0))
    (e1 : W3.heap[bn]? = some (.cells An 62 (0, 0))) (e2 : W3.heap[bh]? = some (.cells Ah 4 (0, 0))) (e3 : W3.heap[bo]? = some (.cells Ao 36 (0, 0))) (h1 : w.heap.size ≤ bn) (h2 : w.heap.size ≤ bh) (h3 : w.heap.size ≤ bo) (hb : Below w.heap.size w W3) (hz : W3.heap.size = w.heap.size + 1 + 1 + 1) :
    NewP g b base n kw l s w (.pointer (some ⟨w.heap.size + 1 + 1 + 1, 0, none⟩)) (W3.alloc (.cells #[.pointer (some ⟨g, 0, none⟩), .int .i64 base, .slice (some ⟨bn, 0, none⟩) n n, .slice (some ⟨bh, 0, none⟩) n n, .slice (some ⟨bo, 0, none⟩) kw kw] 80)).drew := by
  have hal := bl_al (Below.refl _ W3) (.cells #[.pointer (some ⟨g, 0, none⟩), .int .i64 base, .slice (some ⟨bn, 0, none⟩) n n, .slice (some ⟨bh, 0, none⟩) n n, .slice (some ⟨bo, 0, none⟩) kw kw] 80)
  have hbx := heap_alloc_new W3 (.cells #[.pointer (some ⟨g, 0, none⟩), .int .i64 base, .slice (some ⟨bn, 0, none⟩) n n, .slice (some ⟨bh, 0, none⟩) n n, .slice (some ⟨bo, 0, none⟩) kw kw] 80)
  rw [hz] at hbx
  have hmm := hm.keep (bl_tr hb hal)
  exact ⟨⟨_, g, b, bn, bh, bo, base, n, kw⟩, rfl, rfl, rfl, rfl, rfl, rfl, ⟨by show w.heap.size ≤ w.heap.size + 1 + 1 + 1; omega, h1, h2, h3⟩, ⟨hbx, ⟨An, (hal.block _ (lt_hp e1)).trans e1, an1, an2⟩, ⟨Ah, (hal.block _ (lt_hp e2)).trans e2, ah1, ah2⟩, ⟨Ao, (hal.block _ (lt_hp e3)).trans e3, ao1, ao2⟩, hl, hl2, hn, hn2, hk, hk2, k, c, o, m, d, hmm⟩, (Tw.of (bl_tr hb hal)).dr⟩
/-- the links of a new pool, so many of them -/
def fil (l : List Int) (base : Nat) : Nat → List Int
  | 0 => l
  | k + 1 => (fil l base k).set (base + 1 + k) ((k : Int) + 1)
theorem fil_len (l : List Int) (base : Nat) : ∀ k, (fil l base k).length = l.length
  | 0 => rfl
  | k + 1 => by show (List.set _ _ _).length = _; rw [List.length_set, fil_len l base k]
theorem fil_nth (l : List Int) (base : Nat) : ∀ k, base + 1 + k ≤ l.length → ∀ j, j < k → nth (fil l base k) (base + 1 + j) = (j : Int) + 1
  | 0, _, j, hj => absurd hj (by omega)
  | k + 1, h, j, hj => by
    show nth ((fil l base k).set (base + 1 + k) ((k : Int) + 1)) (base + 1 + j) = _
    rw [nth_set _ _ _ _ (by rw [fil_len]; omega)]
    by_cases e : k = j
    · subst e; rw [if_pos rfl]
    · rw [if_neg (by omega), fil_nth l base k (by omega) j (by omega)]
/-- the cells of a new pool -/
structure LF (l : List Int) (base n : Nat) : Prop where
  top : nth l base = 1
  lnk : ∀ j, j < n → nth l (base + 1 + j) = (j : Int) + 1
theorem fil_lf (l : List Int) (base n : Nat) (h : base + 1 + n ≤ l.length) : LF ((fil l base n).set base 1) base n := by
  constructor
  · rw [nth_set _ _ _ _ (by rw [fil_len]; omega), if_pos rfl]
  · intro j hj
    rw [nth_set _ _ _ _ (by rw [fil_len]; omega), if_neg (by omega), fil_nth l base n h j hj]
theorem fil_succ (l : List Int) (base k : Nat) : fil l base (k + 1) = (fil l base k).set (base + 1 + k) ((k : Int) + 1) := rfl
theorem fil_zero (l : List Int) (base : Nat) : fil l base 0 = l := rfl
attribute [irreducible] fil
theorem pk00 : pk 0 0 = 1 := by rw [pk_eq, pl_in 0 (by omega)]; rfl
/-- what New answers -/
def NewPo (g b base n kw : Nat) (len : Nat) (s : Int) (w : World) (e : Ending) (w' : World) : Prop := ∃ (A : Ad) (l' : List Int), e = .returned (.tuple #[.pointer (some ⟨A.p, 0, none⟩), .int .i64 0]) ∧ A.g = g ∧ A.b = b ∧ A.base = base ∧ A.n = n ∧ A.k = kw ∧ (w.heap.size ≤ A.p ∧ w.heap.size ≤ A.bn ∧ w.heap.size ≤ A.bh ∧ w.heap.size ≤ A.bo) ∧ l'.length = len ∧ LF l' base n ∧ Po A (fun _ => .slice none 0 0) (fun _ => 0) (fun _ => false) (fun _ => .slice none 0 0) l' (s + n + 1) w' ∧ Tw [g, b] w w'
set_option maxHeartbeats 16000000 in
theorem new_good (g b base n kw : Nat) (l : List Int) (s k c o m : Int) (d : Bool) (hl : base + 1 + n ≤ l.length) (hl2 : l.length ≤ 5000) (hn : 1 ≤ n) (hn2 : n ≤ 4096) (hk : 1 ≤ kw) (hk2 : kw ≤ 16) (s0 : 0 ≤ s) (s1 : s ≤ 100000) (w : World) (h : MB 0 g b l s k c o m d w) :
    Calls Try.prog 8 #[.pointer (some ⟨g, 0, none⟩), .int .i64 base, .int .i64 n, .int .i64 kw] w (NewPo g b base n kw l.length s w) := by
  obtain ⟨An, an1, an2, an3⟩ := mk_n n (by omega)
  obtain ⟨Ah, ah1, ah2, ah3⟩ := mk_h n (by omega)
  obtain ⟨Ao, ao1, ao2, ao3⟩ := mk_o kw (by omega)
  have CE := Lib.hid (fun W => pcells_ok n (by omega) (by omega) W)
  have SZ := Lib.hid (size_any 0 g b l s k c o m d w h)
  have NP := Lib.hid (fun bn bh bo W3 e1 e2 e3 h1 h2 h3 hb hz => new_p (bn := bn) (bh := bh) (bo := bo) (W3 := W3) h hl hl2 hn hn2 hk hk2 an1 an2 ah1 ah2 ao1 ao2 e1 e2 e3 h1 h2 h3 hb hz)
  have d1 : decide ((kw : Int) < 1) = false := decide_eq_false (by omega)
  have d2 : decide (16 < (kw : Int)) = false := decide_eq_false (by omega)
  have d3 : decide ((base : Int) < 0) = false := decide_eq_false (by omega)
  have e1 : ((n : Int) + 1 == 0) = false := by simp; omega
  have hw : IntKind.i64.wrap ((l.length : Int) - ((n : Int) + 1)) = (l.length : Int) - ((n : Int) + 1) := IntWalk.i64_in _ (by omega)
  have d4 : decide ((l.length : Int) - ((n : Int) + 1) < (base : Int)) = false := decide_eq_false (by omega)
  have i1 : ¬ ((l.length : Int) - ((n : Int) + 1) < (base : Int)) := by omega
  have FL := Lib.hid (fil_lf l base n hl)
  have FN := Lib.hid (fun k => fil_len l base k)
  clear h an1 an2 ah1 ah2 ao1 ao2
  go_enter Try.func8, Try.ntmps8
  go_wp2_with fail
  refine (CE.out _).mono ?_; rintro e w1 ⟨rfl, rfl⟩
  go_wp2_with fail
  refine SZ.out.mono ?_; rintro e w1 ⟨rfl, rfl⟩
  go_upto_region 4 with fail
  go_cut [11] (fun v11 wx => Hid (NewP g b base n kw l s w v11 wx))
  case first =>
    clear FL FN CE SZ d1 d2 d3 d4 e1 i1 hw
    go_region_held3 (fun _ => True) (exact True.intro) (first | fail)
    all_goals go_wp2
    all_goals go_meet
    all_goals
      show Hid (NewP _ _ _ _ _ _ _ _ _ _)
      first
        | exact Lib.hid (NP.out _ _ _ _ (al3 w _ _ _).1 (al3 w _ _ _).2.1 (al3 w _ _ _).2.2.1 (by omega) (by omega) (by omega) (al3 w _ _ _).2.2.2 (by simp))
        | exact Lib.hid (NP.out _ _ _ _ (al3 w _ _ _).1 (al3 w _ _ _).2.2.1 (al3 w _ _ _).2.1 (by omega) (by omega) (by omega) (al3 w _ _ _).2.2.2 (by simp))
        | exact Lib.hid (NP.out _ _ _ _ (al3 w _ _ _).2.1 (al3 w _ _ _).1 (al3 w _ _ _).2.2.1 (by omega) (by omega) (by omega) (al3 w _ _ _).2.2.2 (by simp))
        | exact Lib.hid (NP.out _ _ _ _ (al3 w _ _ _).2.1 (al3 w _ _ _).2.2.1 (al3 w _ _ _).1 (by omega) (by omega) (by omega) (al3 w _ _ _).2.2.2 (by simp))
        | exact Lib.hid (NP.out _ _ _ _ (al3 w _ _ _).2.2.1 (al3 w _ _ _).1 (al3 w _ _ _).2.1 (by omega) (by omega) (by omega) (al3 w _ _ _).2.2.2 (by simp))
        | exact Lib.hid (NP.out _ _ _ _ (al3 w _ _ _).2.2.1 (al3 w _ _ _).2.1 (al3 w _ _ _).1 (by omega) (by omega) (by omega) (al3 w _ _ _).2.2.2 (by simp))
  case rest =>
    obtain ⟨A, rfl, hg, hb, hbase, hAn, hAk, hsz, po, tw⟩ := hcut.out
    subst hg hb hbase hAn hAk
    have PO := Lib.hid po
    have TW := Lib.hid tw
    have HZ := Lib.hid hsz
    have F0 := Lib.hid (fil_zero l A.base)
    clear hcut po tw hsz NP CE SZ d1 d2 d3 d4 e1 i1 hw an3 ah3 ao3
    rw [← F0.out] at PO
    go_wp2_with fail
    go_loopw [52] (fun i wr => ∃ k : Nat, i = .int .i64 k ∧ k ≤ A.n ∧ Hid (Po A (fun _ => .slice none 0 0) (fun _ => 0) (fun _ => false) (fun _ => .slice none 0 0) (fil l A.base k) (s + k) wr) ∧ Hid (Tw [A.g, A.b] w wr)) (fun i _ => 5000 - (intOf i).toNat)
    case atStart => exact ⟨0, rfl, by omega, by simpa using PO, TW⟩
    case round =>
      clear PO TW F0
      obtain ⟨k, rfl, hk3, PO, TW⟩ := hrel
      by_cases hlt : k < A.n
      · have i1 : (k : Int) < (A.n : Int) := by omega
        have hwk : IntKind.i64.wrap ((k : Int) + 1) = (k : Int) + 1 := IntWalk.i64_in _ (by omega)
        have LK := Lib.hid (fun W (hW : Po A (fun _ => .slice none 0 0) (fun _ => 0) (fun _ => false) (fun _ => .slice none 0 0) (fil l A.base k) (s + k) W) => link_any (k : Int) _ _ _ _ _ _ _ _ W hW.box (by omega) (by omega) (by omega) (by omega))
        have ST := Lib.hid (fun W (hW : Po A (fun _ => .slice none 0 0) (fun _ => 0) (fun _ => false) (fun _ => .slice none 0 0) (fil l A.base k) (s + k) W) => setP (A.base + 1 + k) ((A.base : Int) + 1 + k) ((k : Int) + 1) (by omega) (by rw [FN.out]; omega) (by omega) (by omega) hW)
        rw [← fil_succ] at ST
        obtain ⟨q0, q1, q2, q3, q4⟩ := PO.out.cells
        have PD := Lib.hid PO.out.dr
        have TD := Lib.hid TW.out.dr
        clear q1 q2 q3 q4
        go_wp2_with fail
        go_region_held3 (fun w' => w'.cell? ⟨A.p, 0, none⟩ = some (.pointer (some ⟨A.g, 0, none⟩))) (first | exact q0)
          (first
            | (go_at_call 31; (with_reducible refine (LK.out _ PD.out).mono ?_); rintro e w5 ⟨rfl, rfl⟩)
            | (go_at_call 30; (with_reducible refine (ST.out _ PD.out).mono ?_); rintro e w5 ⟨rfl, f1, f2⟩; have PE := Lib.hid f1; have TE := Lib.hid (TD.out.trans f2); obtain ⟨q0, q1, q2, q3, q4⟩ := f1.cells; clear f1 f2 q1 q2 q3 q4))
        all_goals
          clear LK ST
          go_wp2
          refine ⟨⟨k + 1, by simp, by omega, ?_, TE⟩, by simp [intOf]; omega⟩
          have e9 : s + ((k + 1 : Nat) : Int) = s + k + 1 := by omega
          rw [e9]
          exact PE
      · obtain rfl : k = A.n := by omega
        have i1 : ¬ (A.n : Int) < (A.n : Int) := by omega
        have PK := Lib.hid (fun W => pack_any 0 0 W)
        rw [pk00] at PK
        have ST := Lib.hid (fun W (hW : Po A (fun _ => .slice none 0 0) (fun _ => 0) (fun _ => false) (fun _ => .slice none 0 0) (fil l A.base A.n) (s + A.n) W) => setP A.base A.base 1 rfl (by rw [FN.out]; omega) (by omega) (by omega) hW)
        obtain ⟨q0, q1, q2, q3, q4⟩ := PO.out.cells
        have PD := Lib.hid PO.out.dr
        have TD := Lib.hid TW.out.dr
        clear q2 q3 q4
        go_wp2_with fail
        go_region_held3 (fun w' => w'.cell? ⟨A.p, 0, none⟩ = some (.pointer (some ⟨A.g, 0, none⟩)) ∧ w'.cell? ⟨A.p, 1, none⟩ = some (.int .i64 A.base)) (first | exact ⟨q0, q1⟩)
          (first
            | (go_at_call 32; (with_reducible refine (PK.out _).mono ?_); rintro e w5 ⟨rfl, rfl⟩)
            | (go_at_call 30; (with_reducible refine (ST.out _ PD.out).mono ?_); rintro e w5 ⟨rfl, f1, f2⟩; have PE := Lib.hid f1; have TE := Lib.hid (TD.out.trans f2); obtain ⟨q0, q1, q2, q3, q4⟩ := f1.cells; clear f1 f2 q2 q3 q4))
        all_goals
          have HF : Hid (NewPo A.g A.b A.base A.n A.k l.length s w (.returned (.tuple #[.pointer (some ⟨A.p, 0, none⟩), .int .i64 0])) w5) :=
            Lib.hid ⟨A, _, rfl, rfl, rfl, rfl, rfl, rfl, HZ.out, by rw [List.length_set, FN.out], FL.out, PE.out, TE.out⟩
          clear PK ST PE TE PD TD PO TW HZ FL FN
          go_wp2
          go_ret2
          exact HF.out
end Go.Proofs.Ytaihmkflhapjeaa
