/-
  Acts that run alone; fresh; pools() is true.
-/
import Derived.Test.YtaihmkflhapjeaaPoD
namespace Go.Proofs.Ytaihmkflhapjeaa
open Go.RowKit Go.MuLone
set_option linter.unusedVariables false
section
variable {A : Ad} {nv : Nat → Value} {nb : Nat → Int} {hd : Nat → Bool} {ow : Nat → Value} {l : List Int} {s : Int} {w w1 : World} {a : Nat} {wk nx sl tp bl : Int} {gv : Bool} {R : List Nat}
theorem run_take (B wn m : Nat) (T : Int) (hT : nth l A.base = T) (t0 : 0 ≤ T) (t1 : T ≤ 4611686018427387903) (hm : tpl T = m) (hm2 : m < A.n) (hwk : wk = wn) (hwn : wn < A.k) (s0 : 0 ≤ s) (s1 : s ≤ 100000) (h : Po A nv nb hd ow l s w) (ha : Ac a A wk false 1 sl tp bl w) (ho : Ol B (ow wn) [] w) :
    Calls Try.prog 23 #[.pointer (some ⟨a, 0, none⟩)] w fun e w' => e = .returned (.int .i64 3) ∧ Af a A nv nb (upf hd m true) ow (l.set A.base (upv T (nth l (A.base + 1 + m)))) (s + 1 + 1 + 1) wk false 4 m T (nth l (A.base + 1 + m)) R w w' := by
  refine run3 (a := a) (A := A) (Q1 := fun W => Af a A nv nb hd ow l (s + 1) wk false 2 m T bl R w W) (Q2 := fun W => Af a A nv nb hd ow l (s + 1 + 1) wk false 3 m T (nth l (A.base + 1 + m)) R w W) rfl ha ?_ ?_ ?_ ?_
  · refine step_take false rfl ha ?_ (fun W hW => ⟨_, _, _, _, _, _, hW.ac, rfl⟩)
    have := take_top (R := R) true B wn T hT t0 t1 (.inl ⟨rfl, by omega, by omega⟩) hwk hwn s0 (by omega) h ha ho
    rw [hm] at this
    exact this
  · intro W hW
    refine ⟨⟨_, _, _, _, _, _, rfl, hW.ac⟩, step_take false rfl hW.ac ?_ (fun W hW => ⟨_, _, _, _, _, _, hW.ac, rfl⟩)⟩
    refine (take_link (R := R) m rfl hm2 (by omega) (by omega) hW.st hW.ac).mono ?_
    rintro e W2 ⟨rfl, f⟩
    exact ⟨rfl, hW.tr f⟩
  · intro W hW
    refine ⟨⟨_, _, _, _, _, _, rfl, hW.ac⟩, step_take true rfl hW.ac ?_ (fun W hW => ⟨_, _, _, _, _, _, hW.ac, rfl⟩)⟩
    have := take_swap (R := R) m true rfl hm2 (decide_eq_true hT) t0 t1 (by omega) (by omega) hW.st hW.ac
    rw [swt_yes _ _ _ _ hT] at this
    refine this.mono ?_
    rintro e W2 ⟨rfl, f⟩
    exact ⟨rfl, hW.tr f⟩
  · intro W hW
    exact ⟨_, _, _, _, _, hW.ac⟩
theorem run_none (B wn : Nat) (T : Int) (hT : nth l A.base = T) (t0 : 0 ≤ T) (t1 : T ≤ 4611686018427387903) (hm : tpl T < 0 ∨ (A.n : Int) ≤ tpl T) (hwk : wk = wn) (hwn : wn < A.k) (s0 : 0 ≤ s) (s1 : s ≤ 100000) (h : Po A nv nb hd ow l s w) (ha : Ac a A wk false 1 sl tp bl w) (ho : Ol B (ow wn) [] w) :
    Calls Try.prog 23 #[.pointer (some ⟨a, 0, none⟩)] w fun e w' => e = .returned (.int .i64 1) ∧ Af a A nv nb hd ow l (s + 1) wk false 4 (-1) T bl R w w' := by
  refine run1 (a := a) (A := A) rfl ha ?_ (fun W hW => ⟨_, _, _, _, _, hW.ac⟩)
  exact step_take true rfl ha (take_top (R := R) false B wn T hT t0 t1 (.inr ⟨rfl, hm⟩) hwk hwn s0 (by omega) h ha ho) (fun W hW => ⟨_, _, _, _, _, _, hW.ac, rfl⟩)
theorem run_give (B wn m : Nat) (r : List Int) (hm : sl = m) (hm2 : m < A.n) (hh : hd m = true) (hr : r.length < 2) (hB : B ≤ w.heap.size) (hwk : wk = wn) (hwn : wn < A.k) (h : Po A nv nb hd ow l s w) (ha : Ac a A wk true 0 sl tp bl w) (ho : Ol B (ow wn) r w) (hoa : ∀ i, i ∈ vblk (ow wn) → i ≠ a ∧ i ≠ A.p ∧ i ≠ A.g ∧ i ≠ A.b ∧ i ≠ A.bn ∧ i ≠ A.bh ∧ i ≠ A.bo) :
    Calls Try.prog 23 #[.pointer (some ⟨a, 0, none⟩)] w fun e w' => e = .returned (.int .i64 1) ∧ ∃ v', Ol B v' (sl :: r) w' ∧ (∀ i, i ∈ vblk v' → i ∈ vblk (ow wn) ∨ w.heap.size ≤ i) ∧ Af a A nv nb (upf hd m false) (upf ow wn v') l s wk true 4 sl tp bl (vblk (ow wn)) w w' := by
  refine run1 (a := a) (A := A) rfl ha ?_ (fun W hW => ?_)
  · exact step_give true rfl ha (give_own B wn m r hm hm2 hh hr hB hwk hwn h ha ho hoa) (fun W hW => by
      obtain ⟨v', _, _, hA⟩ := hW
      exact ⟨_, _, _, _, _, _, hA.ac, rfl⟩)
  · obtain ⟨v', _, _, hA⟩ := hW
    exact ⟨_, _, _, _, _, hA.ac⟩
end
/-- what fresh answers -/
def FreshOf (n kw : Nat) (w : World) (e : Ending) (w' : World) : Prop := ∃ (A : Ad) (l' : List Int), e = .returned (.tuple #[.pointer (some ⟨A.p, 0, none⟩), .pointer (some ⟨A.g, 0, none⟩), .bool true]) ∧ A.base = 3 ∧ A.n = n ∧ A.k = kw ∧ (w.heap.size ≤ A.p ∧ w.heap.size ≤ A.g ∧ w.heap.size ≤ A.b ∧ w.heap.size ≤ A.bn ∧ w.heap.size ≤ A.bh ∧ w.heap.size ≤ A.bo) ∧ l'.length = 3 + (n + 1) ∧ LF l' 3 n ∧ Po A (fun _ => .slice none 0 0) (fun _ => 0) (fun _ => false) (fun _ => .slice none 0 0) l' ((n : Int) + 1) w' ∧ Below w.heap.size w w'
set_option maxHeartbeats 4000000 in
theorem fresh_any (n kw : Nat) (hn : 1 ≤ n) (hn2 : n ≤ 4096) (hk : 1 ≤ kw) (hk2 : kw ≤ 16) (w : World) : Calls Try.prog 20 #[.int .i64 n, .int .i64 kw] w (FreshOf n kw w) := by
  have CE := Lib.hid (fun W => pcells_ok n (by omega) (by omega) W)
  have N := Lib.hid (fun W => new_ok (3 + (n + 1)) (by omega) W)
  rw [show ((3 + (n + 1) : Nat) : Int) = 3 + ((n : Int) + 1) by omega] at N
  have C := Lib.hid (fun g b W (hM : MB 0 g b (List.replicate (3 + (n + 1)) 0) 0 0 0 0 0 false W) => new_good g b 3 n kw (List.replicate (3 + (n + 1)) 0) 0 0 0 0 0 false (by simp; omega) (by simp; omega) hn hn2 hk hk2 (by omega) (by omega) W hM)
  rw [show ((3 : Nat) : Int) = 3 from rfl, List.length_replicate] at C
  have hww : IntKind.i64.wrap (3 + ((n : Int) + 1)) = 3 + ((n : Int) + 1) := IntWalk.i64_in _ (by omega)
  go_enter Try.func20, Try.ntmps20
  go_wp2_with fail
  refine (CE.out _).mono ?_; rintro e w1 ⟨rfl, rfl⟩
  go_wp2_with fail
  refine (N.out _).mono ?_; rintro e w1 ⟨g, b, rfl, hg, hb, hm, hbl⟩
  have M := Lib.hid hm
  have Bl := Lib.hid hbl
  have G := Lib.hid (And.intro hg hb)
  clear hm hbl hg hb N
  go_wp2_with fail
  refine (C.out g b _ M.out).mono ?_; rintro e w2 ⟨A, l', rfl, hg, hb, hbase, hAn, hAk, hsz, hlen, hlf, po, tw⟩
  subst hg hb
  have F : Hid (FreshOf n kw w (.returned (.tuple #[.pointer (some ⟨A.p, 0, none⟩), .pointer (some ⟨A.g, 0, none⟩), .bool true])) w2) := Lib.hid (by
    have h1 := G.out
    have h2 := Bl.out.size
    refine ⟨A, l', rfl, hbase, hAn, hAk, by omega, hlen, hlf, ?_, tw.below Bl.out (by intro i hi; simp at hi; omega) h2⟩
    rw [show (n : Int) + 1 = 0 + (n : Int) + 1 by omega]
    exact po)
  clear hbase hAn hAk hsz hlen hlf po tw C M Bl G CE
  go_wp2
  go_ret3
  exact F.out
theorem upv1 : upv 1 1 = 4294967298 := by
  unfold upv
  rw [pk_eq, pl_in 1 (by omega)]
  rfl
theorem Po.ob {A : Ad} {nv : Nat → Value} {nb : Nat → Int} {hd : Nat → Bool} {ow : Nat → Value} {l : List Int} {s : Int} {w : World} (h : Po A nv nb hd ow l s w) : True := trivial
set_option maxHeartbeats 8000000 in
theorem pools_any (w : World) : Calls Try.prog 9 #[] w fun e w' => e = .returned (.bool true) ∧ Below w.heap.size w w' := by
  have F := Lib.hid (fun W => fresh_any 1 2 (by omega) (by omega) (by omega) (by omega) W)
  rw [show ((1 : Nat) : Int) = 1 from rfl, show ((2 : Nat) : Int) = 2 from rfl] at F
  go_enter Try.func9, Try.ntmps9
  go_wp2_with fail
  refine (F.out _).mono ?_; rintro e w1 ⟨A, l', rfl, hbase, hAn, hAk, hsz, hlen, hlf, po, bl⟩
  have P := Lib.hid po
  have B := Lib.hid bl
  have HZ := Lib.hid hsz
  have LL := Lib.hid hlf
  clear F po bl hsz hlf
  go_wp2_with fail
  refine (take_any 0 (by omega) (by omega) P.out).mono ?_; rintro e w2 ⟨a, rfl, hp, ha, hb⟩
  have GA := Lib.hid (show w.heap.size ≤ a by have := B.out.size; omega)
  have P := Lib.hid (P.out.up hb)
  have A1 := Lib.hid ha
  have B := Lib.hid (bl_tr B.out hb)
  clear hp ha hb
  go_wp2_with fail
  refine (take_any 1 (by omega) (by omega) P.out).mono ?_; rintro e w3 ⟨b, rfl, hp, ha, hb⟩
  have GB := Lib.hid (show w.heap.size ≤ b ∧ a ≠ b by have := B.out.size; have := lt_hp A1.out; omega)
  have P := Lib.hid (P.out.up hb)
  have A1 := Lib.hid (A1.out.keep (Tw.of (S := []) hb) (by simp))
  have A2 := Lib.hid ha
  have B := Lib.hid (bl_tr B.out hb)
  clear hp ha hb
  have T0 : nth l' A.base = 1 := by rw [hbase]; exact LL.out.top
  have T1 : nth l' (A.base + 1 + 0) = 1 := by rw [hbase]; exact LL.out.lnk 0 (by omega)
  have R1 := Lib.hid (run_take (R := []) 0 0 0 1 T0 (by omega) (by omega) rfl (by omega) rfl (by omega) (by omega) (by omega) P.out A1.out (.inl ⟨rfl, rfl⟩))
  rw [T1, upv1] at R1
  have LN := Lib.hid (show nth (l'.set A.base 4294967298) A.base = 4294967298 by rw [nth_set _ _ _ _ (by omega), if_pos rfl])
  generalize l'.set A.base 4294967298 = l2 at *
  clear T0 T1
  go_wp2_with fail
  refine R1.out.mono ?_; rintro e w4 ⟨rfl, f⟩
  have A2 := Lib.hid (A2.out.keep f.tw (by have h1 := GB.out; have h2 := A2.out.ne P.out; simp; exact ⟨h2.g, h2.b, h2.h, h2.o, fun e => h1.2 e.symm⟩))
  have A1 := Lib.hid f.ac
  have B := Lib.hid (f.tw.below B.out (by intro i hi; simp at hi; have := HZ.out; have := GA.out; omega) B.out.size)
  have P := Lib.hid f.st
  clear f R1
  go_wp2_with fail
  refine (run_none (R := []) 0 1 4294967298 LN.out (by omega) (by omega) (.inr (by unfold tpl; omega)) rfl (by omega) (by omega) (by omega) P.out A2.out (.inl ⟨rfl, rfl⟩)).mono ?_; rintro e w5 ⟨rfl, f⟩
  have A1 := Lib.hid (A1.out.keep f.tw (by have h1 := GB.out; have h2 := A1.out.ne P.out; simp; exact ⟨h2.g, h2.b, h2.h, h2.o, h1.2⟩))
  have A2 := Lib.hid f.ac
  have B := Lib.hid (f.tw.below B.out (by intro i hi; simp at hi; have := HZ.out; have := GB.out; omega) B.out.size)
  have P := Lib.hid f.st
  clear f
  go_wp2_with fail
  refine (slot_any A1.out).mono ?_; rintro e wx ⟨rfl, rfl⟩
  go_wp2_with fail
  refine (slot_any A2.out).mono ?_; rintro e wx ⟨rfl, rfl⟩
  clear A1 A2
  go_wp2_with fail
  refine (give_any 0 0 (by omega) (by omega) (by omega) (by omega) P.out).mono ?_; rintro e w6 ⟨c, rfl, hp, ha, hb⟩
  have GC := Lib.hid (show w.heap.size ≤ c by have := B.out.size; omega)
  have P := Lib.hid (P.out.up hb)
  have A1 := Lib.hid ha
  have B := Lib.hid (bl_tr B.out hb)
  clear hp ha hb
  go_wp2_with fail
  refine (run_give 0 0 0 [] rfl (by omega) rfl (by simp) (by omega) rfl (by omega) P.out A1.out (.inl ⟨rfl, rfl⟩) (by simp [vblk])).mono ?_; rintro e w7 ⟨rfl, v', _, _, f⟩
  have A1 := Lib.hid f.ac
  have B := Lib.hid (f.tw.below B.out (by intro i hi; simp [vblk] at hi; have := HZ.out; have := GC.out; omega) B.out.size)
  have P := Lib.hid f.st
  clear f
  go_wp2_with fail
  refine (slot_any A1.out).mono ?_; rintro e wx ⟨rfl, rfl⟩
  go_wp2_with fail
  have SL := Lib.hid (slots_any _ _ _ _ _ _ _ _ _ P.out.box)
  rw [hAn] at SL
  refine SL.out.mono ?_; rintro e wx ⟨rfl, rfl⟩
  clear SL P A1
  go_wp2
  go_ret
  exact ⟨rfl, B.out⟩
end Go.Proofs.Ytaihmkflhapjeaa
