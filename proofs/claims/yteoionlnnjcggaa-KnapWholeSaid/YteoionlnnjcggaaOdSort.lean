/-
  order.sorted: the numbers from nought on by their ranks.
-/
import Derived.Test.YteoionlnnjcggaaOdRkM
import Derived.Test.YteoionlnnjcggaaOdAll
namespace Go.Proofs.Yteoionlnnjcggaa.od
open Go.RowKit
set_option linter.unusedVariables false
theorem upTo_rng2 (n : Nat) : Rng n (upTo n) := fun j hj => by rw [upTo_nth n j hj]; omega
set_option maxHeartbeats 1000000 in
theorem sorted_any (c : Int → Int → Int) (hcb : ∀ x y, -1 ≤ c x y ∧ c x y ≤ 1) (n : Nat) (hn : n ≤ 1000) (lt : Nat → Nat → Bool) (hlt : LtO n lt) (hcl : ∀ x y : Nat, x < y → y < n → (c y x < 0 ↔ lt y x = true)) (p1 p2 : Value) (w : World) (hc : Cmp26 c n p1 p2 w.heap.size w) :
    Calls Try.prog 40 #[.int .i64 n, .func (.func 41) #[] #[p1, p2]] w fun e w' => ∃ (g : Nat) (T : List Int), e = .returned (.slice (some ⟨g, 0, none⟩) n n) ∧ IsRk lt n T ∧ OnRk lt n T ∧ Own w.heap.size g n n T w w' := by
  have HR := Lib.hid (rising_any n (by omega) w)
  have HI := Lib.hid (fun (g : Nat) (W : World) (ho : Own w.heap.size g n n (upTo n) w W) => stable_any c hcb (fun z => (rko lt n z.toNat : Int)) w.heap.size g n n (cmpt_of hlt hcl) p1 p2 w hc hn (Nat.le_refl _) (by omega) (upTo n) (upTo_rng2 n) (fun x y h1 h2 => by rw [upTo_nth n x (by omega), upTo_nth n y h2]; omega) W ho)
  have HT : Hid (∀ (g : Nat) (W : World), Own w.heap.size g n n (upTo n) w W → Calls Try.prog 50 #[.slice (some ⟨g, 0, none⟩) n n, .func (.func 41) #[] #[p1, p2]] W fun e w' => e = .returned (.tuple #[]) ∧ ∃ T, IsRk lt n T ∧ OnRk lt n T ∧ Own w.heap.size g n n T w w') := by
    intro g W ho
    have HIg := Lib.hid (HI.out g W ho)
    have HE := Lib.hid (fun (T : List Int) (h1 : Sm T (upTo n) 0 n) (h2 : Up (fun z => (rko lt n z.toNat : Int)) T 0 n) (h3 : T.length = n) => rk_of_up hlt h3 (upTo_len n) (upTo_nth n) h1 h2)
    unfold MrgP at HIg
    clear HI HR ho hc hcb
    go_enter Try.func50, Try.ntmps50
    go_wp2_with fail
    refine HIg.out.mono ?_; rintro e w2 ⟨rfl, T, h1, h2, ho2⟩
    have HO2 := Lib.hid ho2
    have H1 := Lib.hid h1
    have H2 := Lib.hid h2
    clear ho2 h1 h2
    go_wp2
    go_end0
    exact ⟨rfl, T, (HE.out T H1.out H2.out HO2.out.1).1, (HE.out T H1.out H2.out HO2.out.1).2, HO2.out⟩
  clear HI hc hcb
  go_enter Try.func40, Try.ntmps40
  go_wp2_with fail
  refine HR.out.mono ?_; rintro e w1 ⟨g, rfl, ho⟩
  have HO := Lib.hid (HT.out g w1 ho)
  clear ho HT HR
  go_wp2_with fail
  refine HO.out.mono ?_; rintro e w2 ⟨rfl, T, h1, h2, ho2⟩
  have HO2 := Lib.hid ho2
  have H1 := Lib.hid h1
  have H2 := Lib.hid h2
  clear ho2 h1 h2
  go_wp2
  go_ret
  exact ⟨g, T, rfl, H1.out, H2.out, HO2.out⟩
end Go.Proofs.Yteoionlnnjcggaa.od
