/-
  The walk through kurganlaw16.CellJobs.
-/
import Derived.Test.YtdeggnefbkcegaaOut
import Derived.Test.YtdeggnefbkcegaaPacksL
import Derived.Deep.DeepCutAuto
namespace Go.Proofs.Ytdeggnefbkcegaa
open Go.RowKit Go.MuLone
set_option linter.unusedVariables false
theorem none_any (w : World) : Calls Try.prog 6 #[] w fun e w' => e = .returned (.pointer none) ∧ w = w' := by
  go_enter Try.func6, Try.ntmps6
  go_wp2
  go_ret
  exact ⟨rfl, rfl⟩
theorem u64_bd (x : Int) : 0 ≤ IntKind.u64.wrap x ∧ IntKind.u64.wrap x ≤ 18446744073709551615 := by rw [IntKind.wrap_u64]; omega
/-- the jobs that came in -/
def JA (W : World) (a : Option Addr) (n : Nat) (jw jc ja jb : Nat → Int) : Prop := (∀ j, I64 (jw j) ∧ I64 (jc j) ∧ I64 (ja j) ∧ I64 (jb j)) ∧
  ∀ j, j < n → j < 50 → ∃ b o, a = some ⟨b, o, none⟩ ∧ b < W.heap.size ∧ W.cell? ⟨b, o + j * 4, none⟩ = some (.int .i64 (jw j)) ∧ W.cell? ⟨b, o + j * 4 + 1, none⟩ = some (.int .i64 (jc j)) ∧ W.cell? ⟨b, o + j * 4 + 2, none⟩ = some (.int .i64 (ja j)) ∧ W.cell? ⟨b, o + j * 4 + 3, none⟩ = some (.int .i64 (jb j))
theorem JA.keep {W W1 : World} {a : Option Addr} {n : Nat} {jw jc ja jb : Nat → Int} (h : JA W a n jw jc ja jb) (hb : Below W.heap.size W W1) : JA W1 a n jw jc ja jb := ⟨h.1, fun j h1 h2 => by
  obtain ⟨b, o, e, hl, c0, c1, c2, c3⟩ := h.2 j h1 h2
  exact ⟨b, o, e, Nat.lt_of_lt_of_le hl hb.size, (hb.cell (p := ⟨b, _, none⟩) hl).trans c0, (hb.cell (p := ⟨b, _, none⟩) hl).trans c1, (hb.cell (p := ⟨b, _, none⟩) hl).trans c2, (hb.cell (p := ⟨b, _, none⟩) hl).trans c3⟩⟩
theorem RB.ch {g b g2 b2 : Nat} {l : List Int} {s k c o n : Int} {d : Bool} {w w1 : World} (h : RB g2 b2 l s k c o n d w) (q : Ch g b w w1) (h1 : g2 ≠ g) (h2 : g2 ≠ b) (h3 : b2 ≠ g) (h4 : b2 ≠ b) : RB g2 b2 l s k c o n d w1 :=
  ⟨(q.block g2 (lt_hp h.1) h1 h2).trans h.1, (q.block b2 (lt_hp h.2) h3 h4).trans h.2⟩
theorem MB.ch {lk : Int} {g b g2 b2 : Nat} {l : List Int} {s k c o n : Int} {d : Bool} {w w1 : World} (h : MB lk g b l s k c o n d w) (q : Ch g2 b2 w w1) (h1 : g ≠ g2) (h2 : g ≠ b2) (h3 : b ≠ g2) (h4 : b ≠ b2) : MB lk g b l s k c o n d w1 :=
  ⟨(q.block g (lt_hp h.1) h1 h2).trans h.1, (q.block b (lt_hp h.2) h3 h4).trans h.2⟩
theorem blk_ch {g b p : Nat} {o : Obj} {w w1 : World} (h : w.heap[p]? = some o) (q : Ch g b w w1) (h1 : p ≠ g) (h2 : p ≠ b) : w1.heap[p]? = some o := (q.block p (lt_hp h) h1 h2).trans h
theorem row_mono {w : World} {B C g n cap : Nat} {xs : List Value} (h : w.ownsRow B 3 1 (.slice (some ⟨g, 0, none⟩) n cap) n xs) (hC : C ≤ B) : w.ownsRow C 3 1 (.slice (some ⟨g, 0, none⟩) n cap) n xs := by
  obtain ⟨a1, a2⟩ := h
  refine ⟨a1, ?_⟩
  rcases a2 with hn | ⟨g', cap', cur', hv, hg', r⟩
  · exact .inl hn
  · exact .inr ⟨g', cap', cur', hv, by omega, r⟩
theorem Own.ch {B g b ga n cap : Nat} {l : List Int} {w0 w w1 : World} (h : Own B ga n cap l w0 w) (q : Ch g b w w1) (h1 : ga ≠ g) (h2 : ga ≠ b) (hg : B ≤ g) (hb : B ≤ b) (hw : B ≤ w.heap.size) : Own B ga n cap l w0 w1 := by
  obtain ⟨cur, hc⟩ := h.blk
  have hk := blk_ch hc q h1 h2
  refine ⟨h.1, h.2.1, ?_, q.below h.2.2.2 hg hb hw⟩
  obtain ⟨a1, a2⟩ := h.2.2.1
  refine ⟨a1, ?_⟩
  rcases a2 with hn | ⟨g', cap', cur', hv, hg', hh, r⟩
  · exact .inl hn
  · refine .inr ⟨g', cap', cur', hv, hg', ?_, r⟩
    injection hv with hv _ _
    injection hv with hv
    injection hv with hv
    subst hv
    exact blk_ch hh q h1 h2
/-- what is compared lies there -/
def SL (p g2 : Nat) (s k c o n : Int) (d : Bool) (X : World) : Prop := X.heap[p]? = some (.cells #[.int .i64 k, .int .i64 c, .int .i64 o, .int .i64 n, .bool d] 35 (0, 0))
set_option maxRecDepth 100000 in
set_option maxHeartbeats 16000000 in
theorem jobs_core (n X : Int) (M : Nat) (hX : IntKind.u64.wrap n = X) (hX1 : 0 ≤ X ∧ X ≤ 18446744073709551615) (hM : X % 20 = (M : Int)) (ra : Option Addr) (rn rc : Nat) (jw jc ja jb : Nat → Int) (w : World) (hJ : JA w ra rn jw jc ja jb) (hrn : rn ≤ 9223372036854775807) :
    Calls Try.prog 3 #[.int .i64 n, .slice ra rn rc] w fun e w' => e = .returned (.bool true) ∧ Below w.heap.size w w' := by
  have hM1 : M ≤ 19 := by omega
  have J := Lib.hid hJ
  clear hJ
  have G := Lib.hid (fun W => get_nil 0 W)
  have C := Lib.hid (fun W => casx_nil 0 0 0 W)
  have Bp := Lib.hid (fun W => bump_nil 0 0 W)
  have St := Lib.hid (fun W => set_nil 0 0 W)
  have La := Lib.hid last_nil
  have CS := Lib.hid cells_any
  have q35 := fun W => neq35 0 0 0 0 false W
  have HNw := Lib.hid (fun W => new_ok M (by omega) W)
  obtain ⟨A, hA⟩ : ∃ A, A = enc (List.replicate M 0) := ⟨_, rfl⟩
  have hmk : ∀ W : World, (Instr.makeSlice 37 (.int .i64 (M : Int)) (.int .i64 (M : Int))).run Try.prog W = .ok (.slice (some ⟨W.heap.size, 0, none⟩) M M) (W.alloc (.cells A 3)) := fun W => by
    obtain ⟨i0, hi, hz0, hz1, hz2⟩ := info_parts info3
    have h := run_make (P := Try.prog) W 37 3 i0 (.int .i64 0) Try.underlying37 hi hz0 .i64 .i64 (M : Int) (M : Int) (by omega) (by omega) (by rw [hz2]; omega) (by omega)
    rw [hz1] at h
    simp only [Int.toNat_natCast, Nat.mul_one] at h
    rw [h, hA, ← enc_zero]
    rfl
  have HA := Lib.hid hA
  clear hA
  go_enter Try.func3, Try.ntmps3
  go_wp2_with fail
  refine (none_any _).mono ?_; rintro e w1 ⟨rfl, rfl⟩
  go_wp2_with fail
  refine (G.out _).mono ?_; rintro e w1 ⟨rfl, hb⟩
  have B := Lib.hid hb
  clear hb
  go_wp2_with fail
  refine (none_any _).mono ?_; rintro e w2 ⟨rfl, rfl⟩
  go_wp2_with fail
  refine (C.out _).mono ?_; rintro e w2 ⟨rfl, hb⟩
  have B := Lib.hid (bl_tr B.out hb)
  clear hb
  go_wp2_with fail
  refine (none_any _).mono ?_; rintro e w3 ⟨rfl, rfl⟩
  go_wp2_with fail
  refine (Bp.out _).mono ?_; rintro e w3 ⟨rfl, hb⟩
  have B := Lib.hid (bl_tr B.out hb)
  clear hb
  go_wp2_with fail
  refine (CS.out _).mono ?_; rintro e w4 ⟨rfl, hb⟩
  have B := Lib.hid (bl_tr B.out hb)
  clear hb
  go_wp2_with fail
  refine (none_any _).mono ?_; rintro e w5 ⟨rfl, rfl⟩
  go_wp2_with fail
  refine (St.out _).mono ?_; rintro e w5 ⟨rfl, hb⟩
  have B := Lib.hid (bl_tr B.out hb)
  clear hb
  go_wp2_with fail
  refine (none_any _).mono ?_; rintro e w6 ⟨rfl, rfl⟩
  go_wp2_with fail
  refine (size_nil _).mono ?_; rintro e w6 ⟨rfl, rfl⟩
  go_wp2_with fail
  refine (none_any _).mono ?_; rintro e w6 ⟨rfl, rfl⟩
  go_wp2_with fail
  refine (steps_nil _).mono ?_; rintro e w6 ⟨rfl, rfl⟩
  go_wp2_with fail
  refine (none_any _).mono ?_; rintro e w6 ⟨rfl, rfl⟩
  go_wp2_with fail
  refine (La.out _).mono ?_; rintro e w6 ⟨rfl, hb⟩
  have B := Lib.hid (bl_tr B.out hb)
  clear hb
  go_wp2_with fail
  refine (none_any _).mono ?_; rintro e w7 ⟨rfl, rfl⟩
  go_wp2_with fail
  refine (all_nil _).mono ?_; rintro e w7 ⟨rfl, rfl⟩
  go_wp2_with fail
  refine (none_any _).mono ?_; rintro e w7 ⟨rfl, rfl⟩
  go_wp2_with fail
  refine (peek_nil _ _).mono ?_; rintro e w7 ⟨rfl, rfl⟩
  clear G C Bp St La CS q35
  go_wp2_with fail
  refine (HNw.out _).mono ?_; rintro e w8 ⟨g, b, rfl, hg, hb, m1, b1⟩
  have MB1 := Lib.hid m1
  have B8 := Lib.hid (bl_tr B.out b1)
  have G8 := Lib.hid (show w.heap.size ≤ g by have := B.out.size; omega)
  have G9 := Lib.hid (show w.heap.size ≤ b by have := B.out.size; omega)
  clear hg hb m1 b1 HNw B
  have R9 : Hid (RB (w8.heap.size + 1) w8.heap.size (List.replicate M 0) 0 0 0 0 0 false ((w8.alloc (.cells A 3)).alloc (.cells #[.slice (some ⟨w8.heap.size, 0, none⟩) M M, .int .i64 0, .int .i64 0, .int .i64 0, .int .i64 0, .int .i64 0, .bool false] 46))) := by
    have e1 := heap_alloc_new (w8.alloc (.cells A 3)) (.cells #[.slice (some ⟨w8.heap.size, 0, none⟩) M M, .int .i64 0, .int .i64 0, .int .i64 0, .int .i64 0, .int .i64 0, .bool false] 46 (0, 0))
    have e2 := blk_al (heap_alloc_new w8 (.cells A 3 (0, 0))) (.cells #[.slice (some ⟨w8.heap.size, 0, none⟩) M M, .int .i64 0, .int .i64 0, .int .i64 0, .int .i64 0, .int .i64 0, .bool false] 46 (0, 0))
    rw [show (w8.alloc (.cells A 3)).heap.size = w8.heap.size + 1 by simp] at e1
    exact ⟨by rw [List.length_replicate]; exact e1, by rw [← HA.out]; exact e2⟩
  have M9 := Lib.hid (MB1.out.keep (bl_al (bl_al (Below.refl _ w8) (.cells A 3)) (.cells #[.slice (some ⟨w8.heap.size, 0, none⟩) M M, .int .i64 0, .int .i64 0, .int .i64 0, .int .i64 0, .int .i64 0, .bool false] 46)))
  have B9 := Lib.hid (bl_al (bl_al B8.out (.cells A 3)) (.cells #[.slice (some ⟨w8.heap.size, 0, none⟩) M M, .int .i64 0, .int .i64 0, .int .i64 0, .int .i64 0, .int .i64 0, .bool false] 46))
  have GR := Lib.hid (show w.heap.size ≤ w8.heap.size from B8.out.size)
  have HSz := Lib.hid (size_any 0 g b (List.replicate M 0) 0 0 0 0 0 false _ M9.out)
  rw [List.length_replicate] at HSz
  have NE1 := Lib.hid (show g < w8.heap.size ∧ b < w8.heap.size from ⟨lt_hp MB1.out.1, lt_hp MB1.out.2⟩)
  clear MB1 B8 HA
  generalize hgr : w8.heap.size = br at *
  go_wp2_with fail
  refine HSz.out.mono ?_; rintro e w9 ⟨rfl, rfl⟩
  clear HSz
  generalize ((w8.alloc (.cells A 3)).alloc (.cells #[.slice (some ⟨br, 0, none⟩) M M, .int .i64 0, .int .i64 0, .int .i64 0, .int .i64 0, .int .i64 0, .bool false] 46)) = w10 at *
  clear hgr
  have L0 : Hid (I64s (List.replicate M 0)) := fun j => by
    unfold nth
    by_cases h : j < M
    · simp [h, I64]
    · rw [List.getElem?_eq_none (by simp; omega)]; simp [I64]
  have LL0 := Lib.hid (show (List.replicate M (0 : Int)).length = M from List.length_replicate ..)
  generalize List.replicate M (0 : Int) = l0 at *
  go_wp2_with fail
  go_loopw [13] (fun i wr => ∃ (j : Nat) (l : List Int) (s k c o n1 : Int) (d : Bool), j ≤ rn ∧ j ≤ 50 ∧ i = .int .i64 j ∧ 0 ≤ s ∧ s ≤ j ∧ Hid (l.length = M) ∧ Hid (I64s l) ∧ Hid (MB 0 g b l s k c o n1 d wr) ∧ Hid (RB (br + 1) br l s k c o n1 d wr) ∧ Hid (Below w.heap.size w wr)) (fun i _ => 50 - (intOf i).toNat)
  case atStart => exact ⟨0, l0, 0, 0, 0, 0, 0, false, by omega, by omega, rfl, by omega, by omega, LL0, L0, M9, R9, B9⟩
  case round =>
    clear LL0 L0 M9 R9 B9
    obtain ⟨j, l, s, k, c, o, n1, d, hj1, hj2, rfl, s0, s1, HL, HI, HM, HR, HB⟩ := hrel
    by_cases hlt : j < rn ∧ j < 50
    · obtain ⟨h1, h2⟩ := hlt
      obtain ⟨bA, oA, rfl, lA, c0, c1, c2, c3⟩ := (J.out.keep HB.out).2 j h1 h2
      obtain ⟨f0, f1, f2, f3⟩ := J.out.1 j
      have JJ := Lib.hid J.out
      have e0 := u64_bd (jw j)
      obtain ⟨q, hq⟩ : ∃ q : Nat, IntKind.u64.wrap (jw j) % 4 = (q : Int) := ⟨(IntKind.u64.wrap (jw j) % 4).toNat, by omega⟩
      have q4 : q ≤ 3 := by omega
      obtain ⟨r1, r2, r3, l', s', k', c', o', n', d', HO⟩ := out_ex l s k c o n1 d (1 + (q : Int)) (jc j) (ja j) (jb j) (by omega) HI.out f2 f3 s0 (by omega)
      have HOo := Lib.hid HO.own
      have HOr := Lib.hid HO.ref
      have HL' := Lib.hid (HO.len.trans HL.out)
      have HI' := Lib.hid HO.fit
      have lo := HO.lo
      have hi := HO.hi
      clear HO f0 f1 f2 f3 HI HL
      have i1 : decide (j < rn) = true := decide_eq_true h1
      have i2 : decide ((j : Int) < 50) = true := decide_eq_true (by omega)
      have i3 : (j : Int) < (rn : Int) := by omega
      have i4 : (0 : Int) ≤ (j : Int) := by omega
      generalize jw j = vw at *
      generalize jc j = vc at *
      generalize ja j = va at *
      generalize jb j = vb at *
      generalize hXW : IntKind.u64.wrap vw = XW at *
      have hgs : g < wr.heap.size := lt_hp HM.out.1
      have hbs : b < wr.heap.size := lt_hp HM.out.2
      have NEa := Lib.hid hgs
      have NEb := Lib.hid hbs
      have RRs := Lib.hid (lt_hp HR.out.1)
      have e5 := heap_alloc_new wr (.cells #[.int .i64 vw, .int .i64 vc, .int .i64 va, .int .i64 vb] 48 (0, 0))
      have E5 := Lib.hid e5
      have M1 := Lib.hid (HM.out.keep (bl_al (Below.refl _ wr) (.cells #[.int .i64 vw, .int .i64 vc, .int .i64 va, .int .i64 vb] 48)))
      have R1 := Lib.hid (HR.out.keep (bl_al (Below.refl _ wr) (.cells #[.int .i64 vw, .int .i64 vc, .int .i64 va, .int .i64 vb] 48)))
      have B1 := Lib.hid (bl_al HB.out (.cells #[.int .i64 vw, .int .i64 vc, .int .i64 va, .int .i64 vb] 48))
      clear e5 HM HR HB hgs hbs
      go_wp2_with fail
      refine (HOo.out g b vw _ M1.out).mono ?_; rintro e u1 ⟨rfl, m1, ch1⟩
      have nb := NE1.out
      have E6 := Lib.hid (blk_ch E5.out ch1 (by have := NEa.out; omega) (by have := NEb.out; omega))
      have R2 := Lib.hid (R1.out.ch ch1 (by omega) (by omega) (by omega) (by omega))
      have M2 := Lib.hid m1
      have B2 := Lib.hid (ch1.below B1.out G8.out G9.out B1.out.size)
      clear m1 ch1 E5 R1 M1 B1 HOo c0 c1 c2 c3
      generalize hpp : wr.heap.size = p at *
      have HPP := Lib.hid hpp
      clear hpp
      have t1 := cell_of_row u1 p 1 _ 48 _ E6.out
      have t2 := cell_of_row u1 p 2 _ 48 _ E6.out
      have t3 := cell_of_row u1 p 3 _ 48 _ E6.out
      simp at t1 t2 t3
      clear nb
      go_wp2_with fail
      refine (HOr.out (br + 1) br _ R2.out).mono ?_; rintro e u2 ⟨rfl, m1, ch1⟩
      have nb := NE1.out
      have M3 := Lib.hid (M2.out.ch ch1 (by omega) (by omega) (by omega) (by omega))
      have R3 := Lib.hid m1
      have B3 := Lib.hid (ch1.below B2.out (by have := GR.out; omega) GR.out B2.out.size)
      clear m1 ch1 nb R2 M2 B2 HOr t1 t2 t3 E6
      go_wp2_with fail
      refine (last_any g b l' s' k' c' o' n' d' _ M3.out).mono ?_; rintro e u3 ⟨rfl, m1, ch1⟩
      have nb := NE1.out
      have M4 := Lib.hid (m1.keep (bl_al (Below.refl _ u3) (.cells #[.int .i64 k', .int .i64 c', .int .i64 o', .int .i64 n', .bool d'] 35)))
      have R4 := Lib.hid ((R3.out.ch ch1 (by omega) (by omega) (by omega) (by omega)).keep (bl_al (Below.refl _ u3) (.cells #[.int .i64 k', .int .i64 c', .int .i64 o', .int .i64 n', .bool d'] 35)))
      have B4 := Lib.hid (bl_al (ch1.below B3.out G8.out G9.out B3.out.size) (.cells #[.int .i64 k', .int .i64 c', .int .i64 o', .int .i64 n', .bool d'] 35))
      have P4 := Lib.hid (heap_alloc_new u3 (.cells #[.int .i64 k', .int .i64 c', .int .i64 o', .int .i64 n', .bool d'] 35 (0, 0)))
      have N4 := Lib.hid (show u3.heap.size ≠ g ∧ u3.heap.size ≠ b from ⟨by have := lt_hp m1.1; omega, by have := lt_hp m1.2; omega⟩)
      clear m1 ch1 nb R3 M3 B3
      go_wp2_with fail
      generalize u3.heap.size = p5 at *
      generalize u3.alloc (.cells #[.int .i64 k', .int .i64 c', .int .i64 o', .int .i64 n', .bool d'] 35) = w4 at *
      have M5 := Lib.hid (M4.out.keep (bl_drew w4))
      have R5 := Lib.hid (R4.out.keep (bl_drew w4))
      have B5 := Lib.hid (bl_tr B4.out (bl_drew w4))
      have P5 : Hid (w4.drew.heap[p5]? = some (.cells #[.int .i64 k', .int .i64 c', .int .i64 o', .int .i64 n', .bool d'] 35 (0, 0))) := P4.out
      have HK : Hid (∀ X : World, X.heap[p5]? = some (.cells #[.int .i64 k', .int .i64 c', .int .i64 o', .int .i64 n', .bool d'] 35 (0, 0)) → RB (br + 1) br l' s' k' c' o' n' d' X → X.cell? ⟨p5, 0, none⟩ = some (.int .i64 k') ∧ X.cell? ⟨p5, 1, none⟩ = some (.int .i64 c') ∧ X.cell? ⟨p5, 2, none⟩ = some (.int .i64 o') ∧ X.cell? ⟨p5, 3, none⟩ = some (.int .i64 n') ∧ X.cell? ⟨p5, 4, none⟩ = some (.bool d') ∧ X.cell? ⟨br + 1, 1, none⟩ = some (.int .i64 s') ∧ X.cell? ⟨br + 1, 2, none⟩ = some (.int .i64 k') ∧ X.cell? ⟨br + 1, 3, none⟩ = some (.int .i64 c') ∧ X.cell? ⟨br + 1, 4, none⟩ = some (.int .i64 o') ∧ X.cell? ⟨br + 1, 5, none⟩ = some (.int .i64 n') ∧ X.cell? ⟨br + 1, 6, none⟩ = some (.bool d')) := fun X h1 h2 =>
        ⟨(cell_of_row X p5 0 _ 35 _ h1).trans rfl, (cell_of_row X p5 1 _ 35 _ h1).trans rfl, (cell_of_row X p5 2 _ 35 _ h1).trans rfl, (cell_of_row X p5 3 _ 35 _ h1).trans rfl, (cell_of_row X p5 4 _ 35 _ h1).trans rfl, h2.rc.c1, h2.rc.c2, h2.rc.c3, h2.rc.c4, h2.rc.c5, h2.rc.c6⟩
      have K := Lib.hid (HK.out _ P5.out R5.out)
      have z1 : (r1 != r1) = false := by simp
      have z2 : (r2 != r2) = false := by simp
      have z3 : (r3 != r3) = false := by simp
      have z4 : (s' != s') = false := by simp
      have q44 := fun W => neq44 k' c' o' n' d' W
      clear M4 R4 B4 P4 J
      go_region_held3 (fun w' => w'.cell? ⟨p5, 0, none⟩ = some (.int .i64 k') ∧ w'.cell? ⟨p5, 1, none⟩ = some (.int .i64 c') ∧ w'.cell? ⟨p5, 2, none⟩ = some (.int .i64 o') ∧ w'.cell? ⟨p5, 3, none⟩ = some (.int .i64 n') ∧ w'.cell? ⟨p5, 4, none⟩ = some (.bool d') ∧ w'.cell? ⟨br + 1, 1, none⟩ = some (.int .i64 s') ∧ w'.cell? ⟨br + 1, 2, none⟩ = some (.int .i64 k') ∧ w'.cell? ⟨br + 1, 3, none⟩ = some (.int .i64 c') ∧ w'.cell? ⟨br + 1, 4, none⟩ = some (.int .i64 o') ∧ w'.cell? ⟨br + 1, 5, none⟩ = some (.int .i64 n') ∧ w'.cell? ⟨br + 1, 6, none⟩ = some (.bool d'))
        (exact K.out)
        (first
          | (go_at_call 13; (with_reducible refine (steps_any g b l' s' k' c' o' n' d' _ ?_).mono ?_); exact M5.out; rintro e x1 ⟨rfl, m1, ch1⟩; have nb := NE1.out; have n4 := N4.out; have R5 := Lib.hid (R5.out.ch ch1 (by omega) (by omega) (by omega) (by omega)); have P5 := Lib.hid (blk_ch P5.out ch1 n4.1 n4.2); have B5 := Lib.hid (ch1.below B5.out G8.out G9.out B5.out.size); have M5 := Lib.hid m1; have K := Lib.hid (HK.out _ P5.out R5.out); clear m1 ch1 nb n4))
      all_goals
        clear z1 z2 z3 z4 q44 HK K P5 N4
        go_wp2_with fail
        have hl' := HL'.out
        refine (all_any g b l' s' k' c' o' n' d' (by omega) _ M5.out).mono ?_; rintro e u5 ⟨ga, ca, rfl, ho, hga, m1, ch1⟩
        rw [hl'] at ho ⊢
        have nb := NE1.out
        have sR := lt_hp R5.out.1
        have R6 := Lib.hid (R5.out.ch ch1 (by omega) (by omega) (by omega) (by omega))
        have M6 := Lib.hid m1
        have O6 : Hid (Own w.heap.size ga M ca l' w u5) := ⟨hl', Nat.le_trans B5.out.size hga, row_mono ho B5.out.size, ch1.below B5.out G8.out G9.out B5.out.size⟩
        have NG := Lib.hid (show ga ≠ g ∧ ga ≠ b ∧ ga ≠ br + 1 ∧ ga ≠ br from ⟨by omega, by omega, by omega, by omega⟩)
        clear ho hga m1 ch1 nb sR R5 M5 B5 hl'
        go_wp2
        go_loopw [24] (fun i wq => ∃ (kk : Nat) (l2 : List Int), kk ≤ M ∧ i = .int .i64 kk ∧ Hid (∀ j, kk ≤ j → nth l2 j = nth l' j) ∧ Hid (Own w.heap.size ga M ca l2 w wq) ∧ Hid (MB 0 g b l' s' k' c' o' n' d' wq) ∧ Hid (RB (br + 1) br l' s' k' c' o' n' d' wq)) (fun i _ => M - (intOf i).toNat)
        case atStart => exact ⟨0, l', by omega, rfl, fun _ _ => rfl, O6, M6, R6⟩
        case round =>
          clear O6 M6 R6
          obtain ⟨kk, l2, hkk, rfl, HE, HO, HM, HR⟩ := hrel
          by_cases hk2 : kk < M
          · have y1 : (0 : Int) ≤ (kk : Int) := by omega
            have y2 : (kk : Int) < (M : Int) := by omega
            have O7 := Lib.hid (HO.out.keep (bl_drew wr))
            have M7 := Lib.hid (HM.out.keep (bl_drew wr))
            have R7 := Lib.hid (HR.out.keep (bl_drew wr))
            have hen : nth l2 kk = nth l' kk := HE.out kk (Nat.le_refl _)
            have hkl : kk < l'.length := by rw [HL'.out]; exact hk2
            have HEn : Hid (∀ v : Int, ∀ j, kk + 1 ≤ j → nth (l2.set kk v) j = nth l' j) := fun v j hj => by
              rw [nth_set _ _ _ _ (by rw [HO.out.1]; exact hk2), if_neg (by omega)]
              exact HE.out j (by omega)
            have PK := Lib.hid (fun X (hX : MB 0 g b l' s' k' c' o' n' d' X) => peek_ok g b l' s' k' c' o' n' d' (kk : Int) (nth l' kk) kk rfl hkl rfl X hX)
            have HK : Hid (∀ X : World, Own w.heap.size ga M ca l2 w X → RB (br + 1) br l' s' k' c' o' n' d' X → X.cell? ⟨ga, kk, none⟩ = some (.int .i64 (nth l' kk)) ∧ X.cell? ⟨br + 1, 0, none⟩ = some (.slice (some ⟨br, 0, none⟩) M M) ∧ X.cell? ⟨br, kk, none⟩ = some (.int .i64 (nth l' kk))) := fun X h1 h2 => by
              have a1 := h1.cell kk hk2
              rw [hen] at a1
              have a2 := h2.rc.c0
              rw [HL'.out] at a2
              exact ⟨a1, a2, h2.rc.cb kk hkl⟩
            have K := Lib.hid (HK.out _ O7.out R7.out)
            clear hen hkl HO HM HR HE
            generalize nth l' kk = x at *
            have z1 : (x != x) = false := by simp
            go_wp2_with fail
            go_region_held3 (fun w' => w'.cell? ⟨ga, kk, none⟩ = some (.int .i64 x) ∧ w'.cell? ⟨br + 1, 0, none⟩ = some (.slice (some ⟨br, 0, none⟩) M M) ∧ w'.cell? ⟨br, kk, none⟩ = some (.int .i64 x))
              (exact K.out)
              (first
                | (go_at_call 16; (with_reducible refine (PK.out _ ?_).mono ?_); exact M7.out; rintro e x7 ⟨rfl, m1, ch1⟩; have nb := NE1.out; have ng := NG.out; have R7 := Lib.hid (R7.out.ch ch1 (by omega) (by omega) (by omega) (by omega)); have O7 := Lib.hid (O7.out.ch ch1 ng.1 ng.2.1 G8.out G9.out O7.out.2.2.2.size); have M7 := Lib.hid m1; have K := Lib.hid (HK.out _ O7.out R7.out); clear m1 ch1 nb ng))
            all_goals
              have e1 := K.out.1
              have e2 := O7.out.frozen kk
              have ON := Lib.hid (fun v => O7.out.set kk v)
              have MN := Lib.hid (fun v => M7.out.ch ((Ch.refl ga ga x7).st (.inl rfl) kk (.int .i64 v)) (fun h => NG.out.1 h.symm) (fun h => NG.out.1 h.symm) (fun h => NG.out.2.1 h.symm) (fun h => NG.out.2.1 h.symm))
              have RN := Lib.hid (fun v => R7.out.ch ((Ch.refl ga ga x7).st (.inl rfl) kk (.int .i64 v)) (fun h => NG.out.2.2.1 h.symm) (fun h => NG.out.2.2.1 h.symm) (fun h => NG.out.2.2.2 h.symm) (fun h => NG.out.2.2.2 h.symm))
              clear z1 K HK PK O7 M7 R7
              go_wp2
              go_roundw
              case rel => exact ⟨kk + 1, _, by omega, by go_num, HEn.out _, ON.out _, MN.out _, RN.out _⟩
              case measure => simp [intOf]; omega
          · obtain rfl : kk = M := by omega
            go_wp2
            go_roundw
            case rel => exact ⟨j + 1, l', s', k', c', o', n', d', by omega, by omega, by go_num, by omega, by omega, HL', HI', HM, HR, HO.out.2.2.2⟩
            case measure => simp [intOf]; omega
    · by_cases hr : j < rn
      · have d1 : decide (j < rn) = true := decide_eq_true hr
        have d2 : decide ((j : Int) < 50) = false := decide_eq_false (by omega)
        clear hlt hr
        go_wp2
        go_ret
        exact ⟨rfl, HB.out⟩
      · have d1 : decide (j < rn) = false := decide_eq_false hr
        clear hlt hr
        go_wp2
        go_ret
        exact ⟨rfl, HB.out⟩
end Go.Proofs.Ytdeggnefbkcegaa
