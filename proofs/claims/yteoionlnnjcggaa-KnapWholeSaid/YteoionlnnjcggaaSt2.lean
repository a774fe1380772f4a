/-
  knap: the reference's Kids and Answer; the kernel's Answer.
-/
import Derived.Test.YteoionlnnjcggaaSt
namespace Go.Proofs.Yteoionlnnjcggaa.kn
open Go.RowKit
set_option linter.unusedVariables false
theorem ol_up {B C : Nat} {v : Value} {L : List Int} {w : World} (h : Ol B v L w) (hc : C ≤ B) : Ol C v L w := h.mono hc
set_option maxRecDepth 100000 in
set_option maxHeartbeats 8000000 in
theorem rkids_any (K N C : Int) (wl vl : List Int) (cl : List (List Int)) (T pl : List Int) (wa va ca : Option Addr) (wc vc cc : Nat) (v : Value) (w : World) (hw : Ints w wa wl) (hv : Ints w va vl) (hN : (wl.length : Int) = N) (lv : vl.length = wl.length) (n2 : wl.length ≤ 64)
    (io : ∀ j, j < wl.length → (0 ≤ nt wl j ∧ nt wl j ≤ 2147483647) ∧ (0 ≤ nt vl j ∧ nt vl j ≤ 2147483647)) (ho : Ordd wl vl T) (ok : KnOk C T (pick wl T) (pick vl T)) (hp : Ls v pl w) (hl : pl.length ≤ 1000) :
    Calls Try.prog 19 #[.agg #[.int .i64 K, .int .i64 N, .int .i64 C, .slice wa wl.length wc, .slice va vl.length vc, .slice ca cl.length cc], v] w (KdP C T (pick wl T) pl w) := by
  have BA := bl_al (Below.refl _ w) (.cells #[.int .i64 K, .int .i64 N, .int .i64 C, .slice wa wl.length wc, .slice va vl.length vc, .slice ca cl.length cc] 25)
  have ST := Lib.hid (state_any K N C wl vl cl T pl wa va ca wc vc cc v _ (hw.keep BA) (hv.keep BA) hN lv n2 io ho ok (hp.up BA) hl)
  have q0 := heap_alloc_new w (.cells #[.int .i64 K, .int .i64 N, .int .i64 C, .slice wa wl.length wc, .slice va vl.length vc, .slice ca cl.length cc] 25)
  obtain ⟨c0, c1, c2, c3, c4, c5⟩ := box6 q0
  have Q0 := Lib.hid q0
  have HBA := Lib.hid BA
  obtain ⟨pa, pc, rfl⟩ := hp.form
  have HP := Lib.hid (fun (X : World) (h : Below w.heap.size w X) => hp.up h)
  have HW := Lib.hid (fun (X : World) (h : Below w.heap.size w X) => hw.keep h)
  have LV := Lib.hid lv
  have TL : T.length = wl.length := ho.is_.1
  have HTL := Lib.hid TL
  have RG := Lib.hid ho.rng.2
  have NN := Lib.hid n2
  have PW := Lib.hid (fun k (hk : k < wl.length) => nt_pick wl T k (by rw [TL]; exact hk))
  clear BA q0 hp hw hv ok io lv ho TL
  go_enter Try.func19, Try.ntmps19
  go_wp2_with fail
  refine ST.out.mono ?_; rintro e w2 hq
  rcases hq with ⟨hk, g, rfl, LT, hb⟩ | ⟨hk, rfl, hb⟩
  · have HK := Lib.hid hk
    have HB := Lib.hid (bl_tr HBA.out hb)
    have E2 := Lib.hid ((hb.block _ (lt_hp Q0.out)).trans Q0.out)
    clear c0 c1 c2 c3 c4 c5
    obtain ⟨c0, c1, c2, c3, c4, c5⟩ := box6 E2.out
    have HLT := Lib.hid LT
    clear hk hb LT ST Q0 HBA
    by_cases hn : pl.length = T.length
    · have U := Lib.hid (show KdP C T (pick wl T) pl w (.returned (.tuple #[.slice none 0 0, .int .i64 0])) w2 from ⟨[], 0, ⟨fun g => absurd HK.out g, fun _ _ => ⟨rfl, rfl⟩, fun _ g => absurd hn g, fun _ g => absurd hn g⟩, ret_nil w 0 HB.out⟩)
      have b1 : ((pl.length : Int) == N) = true := by rw [← hN, ← HTL.out]; simp [hn]
      generalize rm C (pick wl T) pl pl.length = R at *
      generalize lost (pick vl T) pl pl.length = O at *
      clear hn
      go_wp2
      go_ret2
      exact U.out
    · have b1 : ((pl.length : Int) == N) = false := beq_eq_false_iff_ne.mpr (by rw [← hN, ← HTL.out]; omega)
      have le := HK.out.le
      rw [pick_len] at le
      have tl := HTL.out
      have hkw : pl.length < wl.length := by omega
      obtain ⟨b', o', e', _, m2⟩ := HLT.out pl.length (by omega)
      obtain ⟨rfl, rfl⟩ : b' = g ∧ o' = 0 := by injection e' with q; injection q with q1 q2; exact ⟨q1.symm, q2.symm⟩
      rw [nt_od, Nat.zero_add] at m2
      obtain ⟨t, ht⟩ : ∃ t : Nat, nt T pl.length = (t : Int) := ⟨_, (Int.toNat_of_nonneg (RG.out _ hkw).1).symm⟩
      have tw : t < wl.length := by have := (RG.out _ hkw).2; omega
      rw [ht] at m2
      have pw := PW.out _ hkw
      rw [ht] at pw
      simp only [Int.toNat_natCast] at pw
      obtain ⟨b3, o3, rfl, _, m3⟩ := HW.out _ HB.out t tw
      replace m3 : w2.cell? ⟨b3, o3 + t, none⟩ = some (.int .i64 (nt wl t)) := m3
      have i1 : (pl.length : Int) < (T.length : Int) := by omega
      have i4 : (t : Int) < (wl.length : Int) := by omega
      have HN := Lib.hid hn
      clear hn le tl e' ht hkw tw
      by_cases hb : nt wl t ≤ rm C (pick wl T) pl pl.length
      · have U := Lib.hid (fun m => show KdP C T (pick wl T) pl w (.returned (.tuple #[.slice (some ⟨(w2.drewN m).heap.size, 0, none⟩) 2 2, .int .i64 0])) ((w2.drewN m).alloc (.cells #[.int .i64 1, .int .i64 0] 3)) from ⟨[1, 0], 0, ⟨fun g => absurd HK.out g, fun _ g => absurd g HN.out, fun _ _ g => by rw [pw] at g; omega, fun _ _ _ => ⟨rfl, rfl⟩⟩, _, rfl, (ol_two (w2.drewN m) 1 0).mono (bl_dn HB.out m).size, (bl_al (bl_dn HB.out m) _)⟩)
        clear pw
        generalize rm C (pick wl T) pl pl.length = R at *
        generalize lost (pick vl T) pl pl.length = O at *
        generalize nt wl t = y at *
        go_wp2
        go_quiet (fail)
        go_wp2
        go_ret2
        exact U.out _
      · have U := Lib.hid (fun m => show KdP C T (pick wl T) pl w (.returned (.tuple #[.slice (some ⟨(w2.drewN m).heap.size, 0, none⟩) 1 1, .int .i64 0])) ((w2.drewN m).alloc (.cells #[.int .i64 0] 3)) from ⟨[0], 0, ⟨fun g => absurd HK.out g, fun _ g => absurd g HN.out, fun _ _ _ => ⟨rfl, rfl⟩, fun _ _ g => by rw [pw] at g; omega⟩, _, rfl, (ol_one (w2.drewN m) 0).mono (bl_dn HB.out m).size, (bl_al (bl_dn HB.out m) _)⟩)
        clear pw
        generalize rm C (pick wl T) pl pl.length = R at *
        generalize lost (pick vl T) pl pl.length = O at *
        generalize nt wl t = y at *
        go_wp2
        go_quiet (fail)
        go_wp2
        go_ret2
        exact U.out _
  · have U := Lib.hid (show KdP C T (pick wl T) pl w (.returned (.tuple #[.slice none 0 0, .int .i64 1])) w2 from ⟨[], 1, ⟨fun _ => ⟨rfl, rfl⟩, fun g => absurd g hk, fun g => absurd g hk, fun g => absurd g hk⟩, ret_nil w 1 (bl_tr HBA.out hb)⟩)
    clear hk hb ST HBA
    go_wp2
    go_ret2
    exact U.out
end Go.Proofs.Yteoionlnnjcggaa.kn
