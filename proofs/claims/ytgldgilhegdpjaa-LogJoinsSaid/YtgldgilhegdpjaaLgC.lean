/-
  Records copied into the reference's (from), and compared (the reference's Same).
-/
import Derived.Test.YtgldgilhegdpjaaLgB
import Derived.Test.YtgldgilhegdpjaaLogA
import Derived.Deep.DeepCutAuto
import Derived.Deep.Cut
namespace Go.Proofs.Ytgldgilhegdpjaa
open Go.RowKit
set_option linter.unusedVariables false
def FromP (ks : List (Int × Value)) (w : World) (e : Ending) (w' : World) : Prop := ∃ v', e = .returned v' ∧ w'.ownsRow w.heap.size 45 2 v' ks.length (enc ks) ∧ Below w.heap.size w w'
set_option maxRecDepth 100000 in
set_option maxHeartbeats 8000000 in
theorem from_any {B C : Nat} {v : Value} {ks : List (Int × Value)} {rs : List Rec} {w : World} (ho : w.ownsRow B 36 2 v ks.length (enc ks)) (hp : Ps C ks rs w) (hn : ks.length ≤ 1000) :
    Calls Try.prog 13 #[v] w (FromP ks w) := by
  obtain ⟨i0, hi, hz0, hz1, hz2⟩ := info_parts info45
  obtain ⟨va, vc, rfl⟩ := row_sl ho
  have HR := Lib.hid (fun k (hk : k < ks.length) => row_at ho hk)
  have HP := Lib.hid hp
  have HL := Lib.hid hp.1
  unfold FromP
  obtain ⟨n, hkn⟩ : ∃ n, ks.length = n := ⟨_, rfl⟩
  rw [hkn] at hn ho HR HL ⊢
  clear ho hp
  go_enter Try.func13, Try.ntmps13
  go_wp2
  go_loopw [3, 4] (fun o i wr => ∃ k : Nat, k ≤ n ∧ i = .int .i64 k ∧ Hid (wr.ownsRow w.heap.size 45 2 o (ks.take k).length (enc (ks.take k))) ∧ Hid (Below w.heap.size w wr)) (fun _ i _ => n - (intOf i).toNat)
  case atStart => exact ⟨0, by omega, rfl, Lib.hid (World.ownsRow_nil _ _ _ _), Lib.hid (Below.refl _ _)⟩
  case round =>
    obtain ⟨k, hk, rfl, O, BW⟩ := hrel
    have HT : Hid ((ks.take k).length = k) := Lib.hid (by rw [List.length_take]; omega)
    by_cases hlt : k < n
    · have i1 : (k : Int) < (n : Int) := by omega
      have hwk : IntKind.i64.wrap ((k : Int) + 1) = (k : Int) + 1 := IntWalk.i64_in _ (by omega)
      obtain ⟨g, b, p, rfl, hbp, hBg, hg, hc⟩ := HR.out k hlt
      obtain ⟨pa, pn, pc, rfl⟩ : ∃ a n c, p = .slice a n c := by
        obtain ⟨r, hr⟩ : ∃ r, rs[k]? = some r := ⟨_, List.getElem?_eq_getElem (by rw [← HL.out]; exact hlt)⟩
        exact (HP.out.2 k _ _ hbp hr).2.1.form
      have HC := Lib.hid (fun W (h : Below w.heap.size w W) => hc W (h.block g hg))
      have hws := BW.out.size
      have B1 := Lib.hid (show Below w.heap.size w wr.drew from BW.out.trans ((bl_drew wr).mono hws))
      have B2 := Lib.hid (show Below w.heap.size w (wr.drew.alloc (.cells #[.int .i64 b, .slice pa pn pc] 45)) from B1.out.trans ((bl_al (Below.refl _ _) _).mono B1.out.size))
      have O1 := Lib.hid (show wr.drew.ownsRow w.heap.size 45 2 _ (ks.take k).length (enc (ks.take k)) from O.out)
      have TS := Lib.hid (take_snoc hbp)
      clear hc hbp BW O HP HL
      go_wp2
      go_region_held3 (fun w' => w'.cell? ⟨g, k * 2, none⟩ = some (.int .i64 b) ∧ w'.cell? ⟨g, k * 2 + 1, none⟩ = some (.slice pa pn pc) ∧ ∀ j, w'.frozen? ⟨g, j, none⟩ = false)
        (first | exact HC.out _ B1.out | exact HC.out _ B2.out | exact HC.out _ B3.out)
        (first
          | (refine step_append_lies _ (by rfl) _ _ _ (by rfl) w.heap.size 45 i0 (.agg #[.int .i64 0, .slice none 0 0]) 2 32 Try.underlying22 hi hz0 hz1 hz2 rfl (by decide) _ (ks.take k).length _ (by rfl) (O1.out.alloc _) ⟨wr.heap.size, 0, none⟩ 1 1 [.int .i64 b, .slice pa pn pc] (by rfl) rfl (rec_new _ _ _ _) (by simp [Value.oneCell']) (by decide) (by have := HT.out; unfold maxLen; omega) (by have := HT.out; omega) (by simp; omega) _ rfl ?_; intro g2 cap2 w2 ho2 hg2 _ _; have B3 := Lib.hid ((app_fr (B := w.heap.size) O1.out (Nat.le_refl _) hg2).below B1.out hws); have O3 := Lib.hid (enc_snoc rfl ho2); clear ho2 hg2)
          | fail)
      all_goals
        have O5 := O3.out
        rw [HT.out, ← TS.out] at O5
        have O5 := Lib.hid O5
        clear O3 O1 HC
        go_wp2
        go_roundw
        case rel => exact ⟨k + 1, by omega, by go_num, O5, B3⟩
        case measure => simp [intOf]; omega
    · have i1 : ¬ (k : Int) < (n : Int) := by omega
      obtain rfl : k = n := by omega
      have T := Lib.hid (show ks.take k = ks from List.take_of_length_le (by omega))
      go_wp2
      go_ret
      exact ⟨_, rfl, by have h := O.out; rw [T.out] at h; rw [hkn] at h; exact h, BW.out⟩
end Go.Proofs.Ytgldgilhegdpjaa
