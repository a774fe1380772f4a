/-
  A rank's digits: how many less at each place.
-/
import Derived.Test.YtaobaiifbmhegaaNtNthM
namespace Go.Proofs.Ytaobaiifbmhegaa.nt
set_option linter.unusedVariables false
def fN : Nat → Nat
  | 0 => 1
  | k + 1 => fN k * (k + 1)
theorem fN_succ (k : Nat) : fN (k + 1) = fN k * (k + 1) := rfl
theorem fct_fN : ∀ k, fct k = (fN k : Nat)
  | 0 => fct_zero
  | k + 1 => by rw [fct_succ, fct_fN k, fN_succ]; push_cast; rfl
theorem fN_pos : ∀ k, 0 < fN k
  | 0 => by decide
  | k + 1 => Nat.mul_pos (fN_pos k) (by omega)
def dg (n r k : Nat) : Nat := (r / fN (n - (k + 1))) % (n - k)
theorem dg_lt (n r k : Nat) (h : k < n) : dg n r k < n - k := Nat.mod_lt _ (by omega)
theorem up_div (r m : Nat) : r / fN (m + 1) = (r / fN m) / (m + 1) := by rw [fN_succ, Nat.div_div_eq_div_mul]
theorem rk_div (p : List Int) (n r : Nat) (hr : rk p n n = r) : ∀ d a, a + d = n → ((r / fN d : Nat) : Int) = rk p n a
  | 0, a, h => by
    obtain rfl : a = n := by omega
    rw [show fN 0 = 1 from rfl, Nat.div_one, hr]
  | d + 1, a, h => by
    have ih := rk_div p n r hr d (a + 1) (by omega)
    have b := lsc_bd p a (n - (a + 1))
    have c := (rk_bd p n a (by omega)).1
    rw [rk_succ] at ih
    rw [up_div]
    obtain ⟨q, hq⟩ : ∃ q : Nat, rk p n a = q := ⟨(rk p n a).toNat, by omega⟩
    obtain ⟨s, hs⟩ : ∃ s : Nat, lsc p a (n - (a + 1)) = s := ⟨(lsc p a (n - (a + 1))).toNat, by omega⟩
    rw [hq, hs, show (n : Int) - a = ((d + 1 : Nat) : Int) by omega] at ih
    have e : r / fN d = q * (d + 1) + s := by exact_mod_cast ih
    rw [e, hq, Nat.mul_comm, Nat.mul_add_div (by omega), Nat.div_eq_of_lt (by omega), Nat.add_zero]
theorem rk_dg (p : List Int) (n r : Nat) (hr : rk p n n = r) (a : Nat) (ha : a < n) : lsc p a (n - (a + 1)) = dg n r a := by
  have ih := rk_div p n r hr (n - (a + 1)) (a + 1) (by omega)
  have b := lsc_bd p a (n - (a + 1))
  have c := (rk_bd p n a (by omega)).1
  rw [rk_succ] at ih
  obtain ⟨q, hq⟩ : ∃ q : Nat, rk p n a = q := ⟨(rk p n a).toNat, by omega⟩
  obtain ⟨s, hs⟩ : ∃ s : Nat, lsc p a (n - (a + 1)) = s := ⟨(lsc p a (n - (a + 1))).toNat, by omega⟩
  rw [hq, hs, show (n : Int) - a = ((n - a : Nat) : Int) by omega] at ih
  have e : r / fN (n - (a + 1)) = q * (n - a) + s := by exact_mod_cast ih
  unfold dg
  rw [e, hs, Nat.mul_comm, Nat.mul_add_mod, Nat.mod_eq_of_lt (by omega)]
theorem dg_rk (n r : Nat) (hr : r < fN n) : rk (ord n (dg n r)) n n = r := by
  have key : ∀ a, a ≤ n → rk (ord n (dg n r)) n a = ((r / fN (n - a) : Nat) : Int) := by
    intro a
    induction a with
    | zero => intro _; rw [rk_zero, Nat.sub_zero, Nat.div_eq_of_lt hr]; rfl
    | succ a ih =>
      intro ha
      have h1 := ord_lsc n (dg n r) (fun k hk => dg_lt n r k hk) a (by omega)
      rw [rk_succ, ih (by omega), h1, show n - a = (n - (a + 1)) + 1 by omega, up_div]
      unfold dg
      rw [show n - a = (n - (a + 1)) + 1 by omega]
      have := Nat.div_add_mod (r / fN (n - (a + 1))) (n - (a + 1) + 1)
      rw [show (n : Int) - a = ((n - (a + 1) + 1 : Nat) : Int) by omega, Int.mul_comm]
      exact_mod_cast this
  have := key n (Nat.le_refl _)
  rw [Nat.sub_self, show fN 0 = 1 from rfl, Nat.div_one] at this
  exact this
theorem rk_lt (p : List Int) (n r : Nat) (hr : rk p n n = r) : r < fN n := by
  have h1 := (rk_bd p n n (Nat.le_refl _)).2
  have h2 := ff_fct n n (Nat.le_refl _)
  rw [Nat.sub_self, fct_zero, Int.mul_one, fct_fN] at h2
  rw [hr, h2] at h1
  omega
end Go.Proofs.Ytaobaiifbmhegaa.nt
