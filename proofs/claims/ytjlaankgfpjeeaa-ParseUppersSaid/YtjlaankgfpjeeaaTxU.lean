/-
  The text of a tour's numbers above its middle. Plain mathematics.
-/
import Derived.Test.YtjlaankgfpjeeaaTxB0
import Derived.Test.YtjlaankgfpjeeaaWr
namespace Go.Proofs.Ytjlaankgfpjeeaa
open Go.RowKit
set_option linter.unusedVariables false
theorem dz_dec (u : Nat) (h : u ≠ 0) : dz u = Lib.decDigits u := by
  induction u using Nat.strongRecOn with
  | _ u ih =>
    by_cases h1 : u < 10
    · rw [dz_step u h, show u / 10 = 0 by omega, dz_zero, Lib.decDigits_one h1, show u % 10 = u by omega]; rfl
    · have e : Lib.decDigits u = Lib.decDigits (u / 10) ++ [UInt8.ofNat (48 + u % 10)] := by conv => lhs; rw [Lib.decDigits, dif_neg h1]
      rw [dz_step u h, e, ih (u / 10) (by omega) (by omega)]
theorem dec_eq (u : Nat) : dec u = ⟨(Lib.decDigits u).toArray⟩ := by
  unfold dec
  split
  · rename_i h; subst h; rw [Lib.decDigits_one (by decide)]; rfl
  · rename_i h; rw [dz_dec u h]
/-- pieces, a blank ahead of each -/
def bt : List Pc → List UInt8
  | [] => []
  | x :: r => 32 :: (x.by_ ++ bt r)
theorem bt_app : ∀ (a b : List Pc), bt (a ++ b) = bt a ++ bt b
  | [], b => rfl
  | x :: a, b => by simp [bt, bt_app a b]
theorem bt_join : ∀ (r : List Pc) (x : Pc), ∃ (ps : List (Pc × UInt8)) (y : Pc), x.by_ ++ bt r = txt ps ++ y.by_ ∧ ps.map (·.1) ++ [y] = x :: r ∧ ∀ z ∈ ps, z.2 = 32
  | [], x => ⟨[], x, by simp [bt, txt], rfl, by simp⟩
  | w :: r, x => by
    obtain ⟨ps, y, e1, e2, e3⟩ := bt_join r w
    refine ⟨(x, 32) :: ps, y, ?_, by simp [e2], fun z hz => ?_⟩
    · show x.by_ ++ 32 :: (w.by_ ++ bt r) = x.by_ ++ 32 :: txt ps ++ y.by_
      rw [e1]; simp
    · rcases List.mem_cons.1 hz with e | e
      · subst e; rfl
      · exact e3 z e
theorem fit_more (ps : List (Pc × UInt8)) (x : Pc) (q e : Nat) : Fit (tks 0 ps ++ [x.tok q] ++ [⟨3, noText, 0, e⟩]) (ps.map (·.1) ++ [x]) e := by
  refine ⟨by simp [tks_len], ?_, fun i y h => ?_⟩
  · unfold tk
    rw [List.getElem?_append_right (by simp [tks_len]), show (ps.map (·.1) ++ [x]).length - (tks 0 ps ++ [x.tok q]).length = 0 by simp [tks_len]]; rfl
  · unfold tk
    rcases Nat.lt_or_ge i ps.length with c | c
    · rw [List.getElem?_append_left (by simp [tks_len]; omega), List.getElem?_append_left (by rw [tks_len]; exact c)]
      rw [List.getElem?_append_left (by simpa using c), List.getElem?_map] at h
      cases hi : ps[i]? with
      | none => rw [hi] at h; cases h
      | some z =>
        rw [hi] at h
        obtain ⟨q', hq⟩ := tks_get ps 0 i z hi
        exact ⟨q', by rw [hq]; cases h; rfl⟩
    · have hi : i = ps.length := by
        have := (List.getElem?_eq_some_iff.1 h).1
        simp at this; omega
      subst hi
      rw [List.getElem?_append_right (by simp)] at h
      simp at h
      subst h
      refine ⟨q, ?_⟩
      rw [List.getElem?_append_left (by simp [tks_len]), List.getElem?_append_right (by simp [tks_len]), tks_len, Nat.sub_self]; rfl
theorem b32 : blankB 32 := by unfold blankB; decide
theorem sp_join (x : Pc) (r : List Pc) (hx : x.ok) (h : ∀ y ∈ r, y.ok) : ∃ T e, SP ⟨(x.by_ ++ bt r).toArray⟩ 0 [] = .ok T ∧ Fit T (x :: r) e := by
  obtain ⟨ps, y, e1, e2, e3⟩ := bt_join r x
  have ok : ∀ z ∈ x :: r, z.ok := fun z hz => by rcases List.mem_cons.1 hz with e | e; subst e; exact hx; exact h z e
  have hy : y.ok := ok y (by rw [← e2]; simp)
  have hp : ∀ z ∈ ps, z.1.ok ∧ blankB z.2 := fun z hz => ⟨ok z.1 (by rw [← e2]; exact List.mem_append_left _ (List.mem_map_of_mem hz)), by rw [e3 z hz]; exact b32⟩
  have F := fit_more ps y (txt ps).length ((txt ps).length + y.by_.length)
  rw [e2] at F
  exact ⟨_, _, by rw [e1]; exact sp_more ps y hp hy, F⟩
/-- the numbers above the middle: of row a up to column b, of all rows up to a -/
def Rw (cl : List (List Int)) (a b : Nat) : List Nat := (List.range (b - a - 1)).map fun k => ((cl[a]?.getD [])[a + 1 + k]?.getD 0).toNat
def Uw (cl : List (List Int)) (n : Nat) : Nat → List Nat
  | 0 => []
  | a + 1 => Uw cl n a ++ Rw cl a n
theorem Rw_len (cl : List (List Int)) (a b : Nat) : (Rw cl a b).length = b - a - 1 := by simp [Rw]
theorem Uw_len (cl : List (List Int)) (n : Nat) : ∀ a, (Uw cl n a).length = rs n a
  | 0 => rfl
  | a + 1 => by
    show (Uw cl n a ++ Rw cl a n).length = rs n a + (n - 1 - a)
    rw [List.length_append, Uw_len cl n a, Rw_len]; omega
theorem Rw_succ (cl : List (List Int)) {a b : Nat} (h : a < b) : Rw cl a (b + 1) = Rw cl a b ++ [((cl[a]?.getD [])[b]?.getD 0).toNat] := by
  unfold Rw
  rw [show b + 1 - a - 1 = (b - a - 1) + 1 by omega, List.range_succ, List.map_append, List.map_singleton, show a + 1 + (b - a - 1) = b by omega]
theorem Uw_pre (cl : List (List Int)) (n : Nat) : ∀ k a, ∃ r, Uw cl n (a + k) = Uw cl n a ++ r
  | 0, a => ⟨[], by simp⟩
  | k + 1, a => by
    obtain ⟨r, hr⟩ := Uw_pre cl n k a
    exact ⟨r ++ Rw cl (a + k) n, by show Uw cl n (a + k) ++ Rw cl (a + k) n = _; rw [hr, List.append_assoc]⟩
theorem Uw_get (cl : List (List Int)) {n a b : Nat} (h : a < b) (hb : b < n) : (Uw cl n n)[rs n a + (b - a - 1)]? = some ((cl[a]?.getD [])[b]?.getD 0).toNat := by
  obtain ⟨r, hr⟩ := Uw_pre cl n (n - (a + 1)) (a + 1)
  rw [show a + 1 + (n - (a + 1)) = n by omega] at hr
  rw [hr, List.getElem?_append_left (by rw [Uw_len]; show _ < rs n a + (n - 1 - a); omega)]
  show (Uw cl n a ++ Rw cl a n)[_]? = _
  rw [List.getElem?_append_right (by rw [Uw_len]; omega), Uw_len, Nat.add_sub_cancel_left]
  unfold Rw
  rw [map_range_get _ _ _ (by omega), show a + 1 + (b - a - 1) = b by omega]
/-- the text -/
def tspL : List UInt8 := [84, 83, 80]
def upL : List UInt8 := [85, 80, 80, 69, 82]
def utx (n : Nat) (us : List Nat) : List UInt8 := tspL ++ bt (.nu n :: .wd upL :: us.map Pc.nu)
/-- a tour mirrored -/
def mir (cl : List (List Int)) (a b : Nat) : Int := if a ≤ b then (cl[a]?.getD [])[b]?.getD 0 else (cl[b]?.getD [])[a]?.getD 0
theorem upp_tells {n : Nat} {C : Int} {wl vl : List Int} {cl : List (List Int)} (h : Fm 3 n C wl vl cl) {T : List Tok} {e : Nat} (F : Fit T (.wd tspL :: .nu n :: .wd upL :: (Uw cl n n).map Pc.nu) e) : PR T = .ok 3 n 0 [] [] (tab n (mir cl)) := by
  have hn := h.n1
  obtain ⟨a1, a2, a3, a4, a5, a6⟩ := h.rs (by decide)
  obtain ⟨P, hP⟩ : ∃ P, P = Pc.wd tspL :: .nu n :: .wd upL :: (Uw cl n n).map Pc.nu := ⟨_, rfl⟩
  rw [← hP] at F
  have hl : P.length = 3 + rs n n := by rw [hP]; simp [Uw_len]; omega
  obtain ⟨q1, q2, q3, q4, q5⟩ := head2 (most := 24) F (by rw [hP]; rfl) (by rw [hP]; rfl) (show idx3 ⟨tspL.toArray⟩ = 2 by decide +kernel) (by decide) ⟨hn, by omega⟩
  obtain ⟨w1, w2⟩ := F.wd (i := 2) (w := upL) (by rw [hP]; rfl)
  have w3 : idx2 (tk T 2).text = 1 := by rw [w2]; decide +kernel
  have e3 : s3 T ⟨2, 0⟩ = ⟨3, 0⟩ := by
    unfold s3 wf
    show adv ⟨2, 0⟩ (if (tk T 2).kind = 3 then 6 else if idx2 (tk T 2).text < 0 then 3 else 0) = _
    rw [w1, w3, if_neg (by decide), if_neg (by decide)]; exact adv_ok rfl
  have g : ∀ k m, (Uw cl n n)[k]? = some m → P[3 + k]? = some (.nu m) := fun k m hk => by
    rw [hP, show 3 + k = k + 1 + 1 + 1 by omega, List.getElem?_cons_succ, List.getElem?_cons_succ, List.getElem?_cons_succ, List.getElem?_map, hk]; rfl
  have bd : ∀ m ∈ Uw cl n n, m ≤ 2147483647 := by
    have rb : ∀ a, a < n → ∀ m ∈ Rw cl a n, m ≤ 2147483647 := fun a ha m hm => by
      unfold Rw at hm
      obtain ⟨k, hk, rfl⟩ := List.mem_map.1 hm
      have hk := List.mem_range.1 hk
      have := ((a6 a ha).2 (a + 1 + k) (by omega)).1
      omega
    have ub : ∀ a, a ≤ n → ∀ m ∈ Uw cl n a, m ≤ 2147483647 := by
      intro a
      induction a with
      | zero => intro _ m hm; simp [Uw] at hm
      | succ a ih =>
        intro ha m hm
        rcases List.mem_append.1 (show m ∈ Uw cl n a ++ Rw cl a n from hm) with q | q
        · exact ih (by omega) m q
        · exact rb a (by omega) m q
    exact ub n (Nat.le_refl _)
  have hE : ∀ j, j < rs n n → eE (tk T (3 + j)) = 0 := fun j hj => by
    have hj' : j < (Uw cl n n).length := by rw [Uw_len]; exact hj
    have t := F.nu (g j _ (List.getElem?_eq_getElem hj'))
    refine eE_fine t.1 ?_
    rw [t.2.1]
    have := bd _ (List.getElem_mem hj')
    omega
  have hS : PS T = ⟨P.length, 0⟩ := by
    unfold PS
    rw [q1, if_neg (by decide), if_pos rfl]
    unfold tSt
    rw [q3]
    show (if idx2 (tk T 2).text = 0 then _ else _) = _
    rw [w3, if_neg (by decide), q4, steps_all (E := eK) e3 hE, hl]
  unfold PR
  rw [hS, fin_end F, q1, q5, if_neg (by simp), if_neg (by decide), if_pos rfl, w3, if_neg (by decide)]
  congr 1
  refine tab_congr fun a b ha hb => ?_
  unfold MU mir
  rcases Nat.lt_trichotomy a b with c | c | c
  · rw [if_neg (by omega), if_pos c, if_pos (by omega), (F.nu (g _ _ (Uw_get cl c hb))).2.1]
    have := ((a6 a ha).2 b hb).1; omega
  · subst c
    rw [if_pos rfl, if_pos (Nat.le_refl _)]
    exact (((a6 a ha).2 a ha).2 rfl rfl).symm
  · rw [if_neg (by omega), if_neg (by omega), if_neg (by omega), (F.nu (g _ _ (Uw_get cl c ha))).2.1]
    have := ((a6 b hb).2 a ha).1; omega
theorem upp_px {n : Nat} {C : Int} {wl vl : List Int} {cl : List (List Int)} (h : Fm 3 n C wl vl cl) : PX ⟨(utx n (Uw cl n n)).toArray⟩ = .ok 3 n 0 [] [] (tab n (mir cl)) := by
  have hn := h.n1
  obtain ⟨a1, a2, a3, a4, a5, a6⟩ := h.rs (by decide)
  have p17 : (10 : Nat) ^ 17 = 100000000000000000 := by decide
  obtain ⟨T, e, hT, F⟩ := sp_join (.wd tspL) (.nu n :: .wd upL :: (Uw cl n n).map Pc.nu) ⟨by decide, by decide, by decide⟩ (fun y hy => by
    rcases List.mem_cons.1 hy with e | hy
    · subst e; show n < 10 ^ 17; omega
    · rcases List.mem_cons.1 hy with e | hy
      · subst e; exact ⟨by decide, by decide, by decide⟩
      · obtain ⟨m, hm, rfl⟩ := List.mem_map.1 hy
        show m < 10 ^ 17
        have ub : ∀ a, a ≤ n → ∀ m ∈ Uw cl n a, m ≤ 2147483647 := by
          intro a
          induction a with
          | zero => intro _ m hm; simp [Uw] at hm
          | succ a ih =>
            intro ha m hm
            rcases List.mem_append.1 (show m ∈ Uw cl n a ++ Rw cl a n from hm) with q | q
            · exact ih (by omega) m q
            · unfold Rw at q
              obtain ⟨k, hk, rfl⟩ := List.mem_map.1 q
              have hk := List.mem_range.1 hk
              have := ((a6 a (by omega)).2 (a + 1 + k) (by omega)).1
              omega
        have := ub n (Nat.le_refl _) m hm
        omega)
  unfold PX
  show (match SP ⟨(tspL ++ bt _).toArray⟩ 0 [] with | .ok T => PR T | .bad p e => PRes.bad p e) = _
  have hT' : SP ⟨(tspL ++ bt (.nu n :: .wd upL :: (Uw cl n n).map Pc.nu)).toArray⟩ 0 [] = .ok T := hT
  rw [hT']
  exact upp_tells h F
theorem bt_len : ∀ (us : List Nat), (∀ m ∈ us, m ≤ 2147483647) → (bt (us.map Pc.nu)).length ≤ 11 * us.length
  | [], _ => by simp [bt]
  | x :: r, h => by
    have ih := bt_len r (fun m hm => h m (List.mem_cons_of_mem _ hm))
    have hx := h x (List.mem_cons_self ..)
    have p10 : (10 : Nat) ^ 10 = 10000000000 := by decide
    have := dec_small 9 x (by omega)
    show (32 :: ((Lib.decDigits x) ++ bt (r.map Pc.nu))).length ≤ _
    simp; omega
end Go.Proofs.Ytjlaankgfpjeeaa
