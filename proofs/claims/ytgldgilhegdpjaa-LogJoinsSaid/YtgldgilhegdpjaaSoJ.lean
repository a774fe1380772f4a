/-
  The comparison of log.Join; slices.SortStableFunc with it.
-/
import Derived.Test.YtgldgilhegdpjaaSoK
import Derived.Test.YtgldgilhegdpjaaLogA
namespace Go.Proofs.Ytgldgilhegdpjaa.so
open Go.RowKit
set_option linter.unusedVariables false
variable {TB : Tb}
theorem lexc_bd (p : List Int) : ∀ q, -1 ≤ lexc p q ∧ lexc p q ≤ 1 := by
  induction p with
  | nil => intro q; cases q <;> simp [lexc]
  | cons a p ih =>
    intro q
    cases q with
    | nil => simp [lexc]
    | cons b q =>
      simp only [lexc]
      split
      · omega
      · split
        · omega
        · exact ih q
theorem lexc_tr (p : List Int) : ∀ q r, lexc p q < 0 → lexc q r < 0 → lexc p r < 0 := by
  induction p with
  | nil =>
    intro q r h1 h2
    cases q with
    | nil => simp [lexc] at h1
    | cons b q =>
      cases r with
      | nil => simp [lexc] at h2
      | cons c r => simp [lexc]
  | cons a p ih =>
    intro q r h1 h2
    cases q with
    | nil => simp [lexc] at h1
    | cons b q =>
      cases r with
      | nil => simp [lexc] at h2
      | cons c r =>
        simp only [lexc] at h1 h2 ⊢
        by_cases e1 : a < b
        · by_cases e2 : b < c
          · rw [if_pos (by omega)]; omega
          · rw [if_neg e2] at h2
            by_cases e3 : c < b
            · rw [if_pos e3] at h2; omega
            · rw [if_pos (by omega)]; omega
        · rw [if_neg e1] at h1
          by_cases e4 : b < a
          · rw [if_pos e4] at h1; omega
          · rw [if_neg e4] at h1
            by_cases e2 : b < c
            · rw [if_pos (by omega)]; omega
            · rw [if_neg e2] at h2
              by_cases e3 : c < b
              · rw [if_pos e3] at h2; omega
              · rw [if_neg e3] at h2
                rw [if_neg (by omega), if_neg (by omega)]
                exact ih q r h1 h2
def pth (rs : List Rec) (x : Int) : List Int := ((rs[x.toNat]?).map fun r => r.2).getD []
def cj (rs : List Rec) (x y : Int) : Int := lexc (pth rs x) (pth rs y)
def ltj (rs : List Rec) (x y : Nat) : Bool := decide (cj rs x y < 0 ∨ (cj rs x y = 0 ∧ x < y))
theorem ltj_iff (rs : List Rec) (x y : Nat) : ltj rs x y = true ↔ cj rs x y < 0 ∨ (cj rs x y = 0 ∧ x < y) := by unfold ltj; simp
theorem ltj_ord (rs : List Rec) (n : Nat) : LtO n (ltj rs) := by
  constructor
  · intro a _ h
    rw [ltj_iff] at h
    have e : cj rs a a = 0 := (lexc_zero _ _).mpr rfl
    omega
  · intro a b c _ _ _ h1 h2
    rw [ltj_iff] at h1 h2 ⊢
    rcases h1 with h1 | ⟨h1, h1'⟩
    · rcases h2 with h2 | ⟨h2, h2'⟩
      · exact .inl (lexc_tr _ _ _ h1 h2)
      · have e := (lexc_zero _ _).mp h2
        left; unfold cj at h1 ⊢; rw [← e]; exact h1
    · have e := (lexc_zero _ _).mp h1
      rcases h2 with h2 | ⟨h2, h2'⟩
      · left; unfold cj at h2 ⊢; rw [e]; exact h2
      · right; exact ⟨by unfold cj at h2 ⊢; rw [e]; exact h2, by omega⟩
  · intro a b _ _ hne
    rw [ltj_iff, ltj_iff]
    have k := lexc_neg (pth rs a) (pth rs b)
    unfold cj
    omega
theorem ltj_cl (rs : List Rec) (x y : Nat) (h : x < y) : cj rs y x < 0 ↔ ltj rs y x = true := by
  rw [ltj_iff]
  constructor
  · exact fun h => .inl h
  · rintro (h | ⟨_, h⟩)
    · exact h
    · omega
def Tabs (TB : Tb) (rs : List Rec) (w : World) : Prop := ∀ x : Nat, x < rs.length → ∃ r, rs[x]? = some r ∧ TB.n x = r.2.length ∧ Lst 0 (.slice (TB.a x) (TB.n x) (TB.c x)) r.2 w ∧ r.2.length ≤ 20
set_option maxHeartbeats 1000000 in
theorem clos_any {rs : List Rec} {g : Nat} {w0 : World} (hT : Tabs TB rs w0) (hg : ∃ cur, w0.heap[g]? = some (.cells cur 36 (0, 0))) : Cmp26 TB (cj rs) rs.length g w0 := fun x y W h0 h1 h2 h3 hb => by
  obtain ⟨X, rfl⟩ : ∃ X : Nat, x = X := ⟨x.toNat, by omega⟩
  obtain ⟨Y, rfl⟩ : ∃ Y : Nat, y = Y := ⟨y.toNat, by omega⟩
  obtain ⟨r1, e1, n1, l1, m1⟩ := hT X (by omega)
  obtain ⟨r2, e2, n2, l2, m2⟩ := hT Y (by omega)
  have keep : ∀ v l, Lst 0 v l w0 → Lst 0 v l W := fun v l h => h.keep hb (fun i hi => by
    simp at hi; subst hi
    obtain ⟨cur, hc⟩ := hg
    exact .inr ⟨cur, 36, hc, by decide⟩)
  have I1 : Ints W (TB.a X) r1.2 := by
    obtain ⟨a, c, e, hi⟩ := (keep _ _ l1).ints
    injection e with e _ _
    rw [e]; exact hi
  have I2 : Ints W (TB.a Y) r2.2 := by
    obtain ⟨a, c, e, hi⟩ := (keep _ _ l2).ints
    injection e with e _ _
    rw [e]; exact hi
  have ec : cj rs X Y = lexc r1.2 r2.2 := by simp [cj, pth, e1, e2]
  rw [ec, n1, n2]
  have CP := Lib.hid (fun U (h : Below W.heap.size W U) => compare_any r1.2 r2.2 (by omega) (by omega) (TB.a X) (TB.a Y) (TB.c X) (TB.c Y) U (I1.keep h) (I2.keep h))
  clear keep l1 l2 I1 I2 ec hb hg hT n1 n2 e1 e2
  generalize TB.k X = kx at *
  generalize TB.k Y = ky at *
  generalize TB.a X = ax at *
  generalize TB.a Y = ay at *
  generalize TB.c X = cx at *
  generalize TB.c Y = cy at *
  generalize lexc r1.2 r2.2 = z at *
  generalize r1.2.length = p at *
  generalize r2.2.length = q at *
  have BB := Lib.hid (bl_al (bl_al (Below.refl W.heap.size W) (.cells #[.int .i64 kx, .slice ax p cx] 36)) (.cells #[.int .i64 ky, .slice ay q cy] 36))
  go_enter Try.func21, Try.ntmps21
  go_wp2_with fail
  refine (CP.out _ BB.out).mono ?_; rintro e w1 ⟨rfl, rfl⟩
  go_wp2
  go_ret
  exact ⟨rfl, BB.out⟩
set_option maxHeartbeats 1000000 in
theorem sort_any {rs : List Rec} {B g cap : Nat} {w0 : World} (hT : Tabs TB rs w0) (hn : rs.length ≤ 1000) (ho : Own TB B g rs.length cap (upTo rs.length) w0 w0) :
    Calls Try.prog 20 #[.slice (some ⟨g, 0, none⟩) rs.length cap, .func (.func 21) #[] #[]] w0 fun e w' => e = .returned (.tuple #[]) ∧ ∃ T, IsRk (ltj rs) rs.length T ∧ OnRk (ltj rs) rs.length T ∧ Own TB B g rs.length cap T w0 w' := by
  have hcap : rs.length ≤ cap ∧ cap ≤ 9223372036854775807 := by
    rcases ho.2.2.1.2 with ⟨h', _⟩ | ⟨g', cap', cur, h', _, hg, h1, h2, _⟩
    · cases h'
    · cases h'
      unfold maxLen at h2
      exact ⟨h1, by omega⟩
  obtain ⟨cur, hcur⟩ := ho.blk
  have HI := Lib.hid (stable_any (cj rs) (fun x y => lexc_bd _ _) (fun z => (rko (ltj rs) rs.length z.toNat : Int)) B g rs.length cap (cmpt_of (ltj_ord rs _) (fun x y h _ => ltj_cl rs x y h)) w0 (clos_any hT ⟨cur, hcur⟩) (by omega) hcap.1 hcap.2 (upTo rs.length) (upTo_rng2 _) (fun x y h1 h2 => by rw [upTo_nth _ x (by omega), upTo_nth _ y h2]; omega) w0 ho)
  have HE := Lib.hid (fun (T : List Int) (h1 : Sm T (upTo rs.length) 0 rs.length) (h2 : Up (fun z => (rko (ltj rs) rs.length z.toNat : Int)) T 0 rs.length) (h3 : T.length = rs.length) => rk_of_up (ltj_ord rs _) h3 (upTo_len _) (upTo_nth _) h1 h2)
  unfold MrgP at HI
  clear hT ho hcap hcur
  generalize rs.length = n at *
  go_enter Try.func20, Try.ntmps20
  go_wp2_with fail
  refine HI.out.mono ?_; rintro e w2 ⟨rfl, T, h1, h2, ho2⟩
  have FIN := Lib.hid (And.intro (HE.out T h1 h2 ho2.1) ho2)
  clear h1 h2 ho2
  go_wp2
  go_end0
  exact ⟨rfl, T, FIN.out.1.1, FIN.out.1.2, FIN.out.2⟩
theorem sort_nil (w : World) : Calls Try.prog 20 #[.slice none 0 0, .func (.func 21) #[] #[]] w fun e w' => e = .returned (.tuple #[]) ∧ Below w.heap.size w w' := by
  have I : Hid (Calls Try.prog 26 #[.slice none 0 0, .int .i64 0, .int .i64 0, .func (.func 21) #[] #[]] w fun e w' => e = .returned (.tuple #[]) ∧ Below w.heap.size w w') := by
    show Calls _ _ _ _ _
    go_enter Try.func26, Try.ntmps26
    go_wp2
    go_loopw [8] (fun i wr => i = .int .i64 1 ∧ wr = w) (fun i _ => 0)
    case atStart => exact ⟨rfl, rfl⟩
    case round =>
      obtain ⟨rfl, rfl⟩ := hrel
      go_wp2
      go_end0
      exact ⟨rfl, Below.refl _ _⟩
  have S : Hid (Calls Try.prog 24 #[.slice none 0 0, .int .i64 0, .func (.func 21) #[] #[]] w fun e w' => e = .returned (.tuple #[]) ∧ Below w.heap.size w w') := by
    show Calls _ _ _ _ _
    go_enter Try.func24, Try.ntmps24
    go_wp2
    go_loopw [7, 8] (fun a b wr => a = .int .i64 0 ∧ b = .int .i64 20 ∧ wr = w) (fun _ i _ => 0)
    case atStart => exact ⟨rfl, rfl, rfl⟩
    case round =>
      obtain ⟨rfl, rfl, rfl⟩ := hrel
      go_wp2_with fail
      refine I.out.mono ?_; rintro e w1 ⟨rfl, hb⟩
      have HB := Lib.hid hb
      clear hb I
      go_wp2
      go_loopw [6] (fun a wr => a = .int .i64 20 ∧ wr = w1) (fun _ _ => 0)
      case atStart => exact ⟨rfl, rfl⟩
      case round =>
        obtain ⟨rfl, rfl⟩ := hrel
        go_wp2
        go_end0
        exact ⟨rfl, HB.out⟩
  clear I
  go_enter Try.func20, Try.ntmps20
  go_wp2_with fail
  refine S.out.mono ?_; rintro e w2 ⟨rfl, hb⟩
  have HB := Lib.hid hb
  clear hb S
  go_wp2
  go_end0
  exact ⟨rfl, HB.out⟩
end Go.Proofs.Ytgldgilhegdpjaa.so
