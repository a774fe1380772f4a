/-
  assign: the reference's Bound, walked.
-/
import Derived.Test.YtlhpiikpmmlpeaaDoorBq
import Derived.Test.YtlhpiikpmmlpeaaDoorHl
namespace Go.Proofs.YtlhpiikpmmlpeaaDoor.kn
open Go.RowKit
set_option linter.unusedVariables false
set_option linter.unusedSimpArgs false
theorem MX.form {B : Nat} {v : Value} {M : List (List Int)} {W : World} (h : MX B v M W) : ∃ a c, v = .slice a M.length c := by
  obtain ⟨ws, ⟨a1, a2⟩, h2, h3⟩ := h
  rcases a2 with ⟨hn, hw⟩ | ⟨g', cap', cur', hv, _⟩
  · exact ⟨none, 0, by rw [hn, hw]⟩
  · exact ⟨_, _, hv⟩
set_option maxRecDepth 100000 in
set_option maxHeartbeats 16000000 in
theorem rbound_any (K C : Int) (n : Nat) (h1n : 1 ≤ n) (hn : n ≤ 24) (cl : List (List Int)) (hcl : cl.length = n) (hrl : ∀ j, j < n → (cl[j]?.getD []).length = n) (hE : EntB n cl) (p : List Int) (hp : p.length ≤ 1000) (pa : Option Addr) (pc : Nat) (va vb' : Value) (ca : Option Addr) (cc : Nat) (w : World) (hI : Ints w pa p) (hR : Rws w ca cl) :
    Calls Tryd.prog 27 #[.agg #[.int .i64 K, .int .i64 n, .int .i64 C, va, vb', .slice ca n cc], .slice pa p.length pc] w (BdP n cl p w) := by
  have b0 : Below w.heap.size w (w.alloc (.cells #[.int .i64 K, .int .i64 n, .int .i64 C, va, vb', .slice ca n cc] 25)) := bl_al (Below.refl _ _) _
  have Q0 := Lib.hid (heap_alloc_new w (.cells #[.int .i64 K, .int .i64 n, .int .i64 C, va, vb', .slice ca n cc] 25))
  have HFr := Lib.hid (rfree_any K C n hn p hp pa pc va vb' (.slice ca n cc) _ (hI.keep b0))
  have B0 := Lib.hid b0
  clear b0
  by_cases hP : Pre n p
  rotate_left
  · have HG : Hid (∀ w', Below w.heap.size w w' → BdP n cl p w (.returned (.tuple #[.int .i64 0, .int .i64 1])) w') := Lib.hid fun w' hb => .inl ⟨hP, rfl, hb⟩
    have HP := Lib.hid hP
    clear hI hP hR hp
    obtain ⟨c0, c1, c2, c3, c4, c5⟩ := box6 Q0.out
    generalize BdP n cl p w = G at *
    generalize p.length = l at *
    go_enter Tryd.func27, Tryd.ntmps27
    go_wp2_with fail
    refine HFr.out.mono ?_; rintro e w1 q
    rcases q with ⟨_, rfl, hb1⟩ | ⟨q, _⟩
    rotate_left
    · exact absurd q HP.out
    have B1 := Lib.hid (bl_tr B0.out hb1)
    clear hb1
    go_wp2
    first
      | exact HG.out _ B1.out
      | (go_ret; exact HG.out _ B1.out)
  · have HP := Lib.hid hP
    have pl := pre_len hP
    have HRB := Lib.hid (rest_bd hn hP hE)
    have HCB := Lib.hid (csm_bd hP hE (p.length) (Nat.le_refl _))
    have HG : Hid (∀ w', Below w.heap.size w w' → BdP n cl p w (.returned (.tuple #[.int .i64 (csm cl p p.length + restR n cl (frl n p) p.length), .int .i64 0])) w') := Lib.hid fun w' hb => .inr ⟨hP, rfl, hb⟩
    have HS : Hid (∀ k, k < p.length → (∃ bp op gr cr gt go zn, pa = some ⟨bp, op, none⟩ ∧ ca = some ⟨gt, go, none⟩ ∧ (∃ gs, gr = some gs ∧ ∀ W, Below w.heap.size w W → W.cell? ⟨bp, op + k, none⟩ = some (.int .i64 (zn : Nat)) ∧ W.cell? ⟨gt, go + k, none⟩ = some (.slice gr n cr) ∧ W.cell? (gs.add zn) = some (.int .i64 (csm cl p (k + 1) - csm cl p k))) ∧ zn < n) ∧ 0 ≤ csm cl p k ∧ csm cl p k ≤ k * 2147483647 ∧ 0 ≤ csm cl p (k + 1) - csm cl p k ∧ csm cl p (k + 1) - csm cl p k ≤ 2147483647) := Lib.hid fun k hk => by
      obtain ⟨gt, go, aj, cj, er, lr, mr, ir, _⟩ := hR k (by omega)
      rw [hrl k (by omega)] at mr
      obtain ⟨bp, op, e1, l1, m1⟩ := hI k hk
      have a := pre_at hP k hk
      have b := hE k (od.nth p k).toNat (by omega) (by omega)
      have c := csm_bd hP hE k (by omega)
      have d : csm cl p (k + 1) - csm cl p k = od.nth (cl[k]?.getD []) (od.nth p k).toNat := by show csm cl p k + _ - csm cl p k = _; omega
      obtain ⟨zn, hzn⟩ : ∃ zn : Nat, od.nth p k = (zn : Int) := ⟨(od.nth p k).toNat, by omega⟩
      obtain ⟨b2, o2, e2, l2, m2⟩ := ir zn (by rw [hrl k (by omega)]; omega)
      rw [d]
      refine ⟨⟨bp, op, aj, cj, gt, go, zn, e1, er, ⟨⟨b2, o2, none⟩, e2, fun W hb => ⟨?_, (hb.cell (p := ⟨gt, go + k, none⟩) lr).trans mr, ?_⟩⟩, by omega⟩, c.1, c.2, b.1, b.2⟩
      · refine (hb.cell (p := ⟨bp, op + k, none⟩) l1).trans ?_
        rw [m1, ← hzn]
        unfold od.nth
        rfl
      · rw [add_at]
        refine (hb.cell (p := ⟨b2, o2 + zn, none⟩) l2).trans ?_
        rw [m2, hzn, Int.toNat_natCast]
        unfold od.nth
        rfl
    have C0 := Lib.hid (show csm cl p 0 = 0 from rfl)
    have FI := Lib.hid (frl_in (by omega : n ≤ 128) p)
    have FF := Lib.hid (frl_full (by omega : n ≤ 128) hP)
    have RR : Hid (∀ (B : Nat) (a : Option Addr) (c : Nat) (W : World), MX B (.slice a (n - p.length) c) (mat n cl (frl n p) p.length) W → Calls Tryd.prog 58 #[.slice a (n - p.length) c] W fun e w' => e = .returned (.int .i64 (restR n cl (frl n p) p.length)) ∧ Below W.heap.size W w') := Lib.hid fun B a c W h => reduce_rest hn pl (frl_full (by omega) hP) (fun v hv => ((frl_mem (by omega : n ≤ 128) p v).1 hv).1) (by rw [List.nodup_iff_pairwise_ne]; exact (frl_pw n p).imp (fun h => by omega)) hE h
    have hFin := fun v (hv : v ∈ frl n p) => ((frl_mem (by omega : n ≤ 128) p v).1 hv).1
    have HX : Hid (∀ r x, r < n → x < (frl n p).length → ∃ gt go b2 o2 cr zn, ca = some ⟨gt, go, none⟩ ∧ zn < n ∧ od.nth (frl n p) x = (zn : Int) ∧ ∀ W, Below w.heap.size w W → W.cell? ⟨gt, go + r, none⟩ = some (.slice (some ⟨b2, o2, none⟩) n cr) ∧ W.cell? ⟨b2, o2 + zn, none⟩ = some (.int .i64 (od.nth (cl[r]?.getD []) (od.nth (frl n p) x).toNat))) := Lib.hid fun r x hr hx => by
      obtain ⟨gt, go, aj, cj, er, lr, mr, ir, _⟩ := hR r (by omega)
      rw [hrl r hr] at mr
      have hin : od.nth (frl n p) x ∈ frl n p := by rw [od.nth_at _ x hx]; exact List.getElem_mem _
      have hb := hFin _ hin
      obtain ⟨zn, hzn⟩ : ∃ zn : Nat, od.nth (frl n p) x = (zn : Int) := ⟨(od.nth (frl n p) x).toNat, by omega⟩
      obtain ⟨b2, o2, e2, l2, m2⟩ := ir zn (by rw [hrl r hr]; omega)
      subst e2
      refine ⟨gt, go, b2, o2, cj, zn, er, by omega, hzn, fun W hb => ⟨(hb.cell (p := ⟨gt, go + r, none⟩) lr).trans mr, ?_⟩⟩
      refine (hb.cell (p := ⟨b2, o2 + zn, none⟩) l2).trans ?_
      rw [m2, hzn, Int.toNat_natCast]
      unfold od.nth
      rfl
    clear hFin
    clear hI hP hR hp hrl hcl hE
    obtain ⟨c0, c1, c2, c3, c4, c5⟩ := box6 Q0.out
    generalize BdP n cl p w = G at *
    generalize restR n cl (frl n p) p.length = rv at *
    generalize csm cl p = f at *
    obtain ⟨l, hl2⟩ : ∃ l, l = p.length := ⟨_, rfl⟩
    rw [← hl2] at HFr HS HG HCB RR FF pl ⊢
    clear hl2
    go_enter Tryd.func27, Tryd.ntmps27
    go_wp2_with fail
    refine HFr.out.mono ?_; rintro e w1 q
    rcases q with ⟨q, _⟩ | ⟨_, a, cap, rfl, hO, hb1⟩
    · exact absurd HP.out q
    have B1 := Lib.hid (bl_tr B0.out hb1)
    have HB6 := Lib.hid (fun X (hb : Below w1.heap.size w1 X) => box6 (((bl_tr hb1 hb).block _ (lt_hp Q0.out)).trans Q0.out))
    have HO : Hid (∀ x, x < (frl n p).length → ∃ fb fo, a = some ⟨fb, fo, none⟩ ∧ ∀ W, Below w1.heap.size w1 W → W.cell? ⟨fb, fo + x, none⟩ = some (.int .i64 (od.nth (frl n p) x))) := Lib.hid fun x hx => by
      obtain ⟨b, o, e, l1, m1⟩ := ol_od hO x hx
      refine ⟨b, o, e, fun W hb => (hb.cell (p := ⟨b, o + x, none⟩) l1).trans m1⟩
    clear c0 c1 c2 c3 c4 c5 hb1 hO HFr
    go_wp2
    go_loopw [8, 9] (fun s i wr => ∃ k : Nat, k ≤ l ∧ s = .int .i64 (f k) ∧ i = .int .i64 k ∧ Hid (Below w1.heap.size w1 wr)) (fun _ i _ => l - (intOf i).toNat)
    case atStart => exact ⟨0, by omega, by rw [C0.out], rfl, Lib.hid (Below.refl _ _)⟩
    case round =>
      obtain ⟨k, hk, rfl, rfl, BW⟩ := hrel
      have bel := BW.out
      obtain ⟨c0, c1, c2, c3, c4, c5⟩ := HB6.out _ bel
      by_cases hlt : k < l
      · obtain ⟨⟨bp, op, gr, cr, gt, go, zn, rfl, rfl, ⟨gs, rfl, hc⟩, hz⟩, s1, s2, s3, s4⟩ := HS.out k hlt
        obtain ⟨m1, m3, m4⟩ := hc _ (bl_tr B1.out bel)
        obtain ⟨u, hu⟩ : ∃ u, u = f (k + 1) - f k := ⟨_, rfl⟩
        rw [← hu] at m4 s3 s4
        have hf : f (k + 1) = f k + u := by omega
        have HF := Lib.hid hf
        have lk : (k : Int) ≤ 24 := by omega
        have r1 : IntKind.i64.wrap (f k + u) = f k + u := by rw [IntKind.wrap_i64]; omega
        have z0 : (0 : Int) ≤ (zn : Int) := by omega
        have z1 : (zn : Int) < (n : Int) := by omega
        have q1 : (k : Int) < (n : Int) := by omega
        have q2 : (k : Int) < (l : Int) := by omega
        have q0 : (0 : Int) ≤ (k : Int) := by omega
        clear hu hf hc bel
        obtain ⟨gsb, gso, gsn⟩ := gs
        generalize f k = fk at *
        have BD := Lib.hid (fun q => bl_tr BW.out (od.bl_dn (Below.refl wr.heap.size wr) q))
        clear BW
        go_wp2
        go_quiet (fail)
        go_wp2
        go_roundw
        case rel => exact ⟨k + 1, by omega, by rw [HF.out], by go_num, Lib.hid (BD.out _)⟩
        case measure => simp [intOf]; omega
      · obtain rfl : l = k := by omega
        clear HS C0
        generalize hF : frl n p = F at *
        have HFe := Lib.hid hF
        clear hF
        have M0 : Hid (MX w1.heap.size (.slice none 0 0) (matk cl F l 0) wr) := Lib.hid (mx_nil _ _)
        have BW0 := BW
        have MN := Lib.hid (fun t => matk_next cl F l t)
        have ML := Lib.hid (fun t => matk_len cl F l t)
        have q1 := HCB.out
        have q2 := HRB.out
        have r1 : IntKind.i64.wrap (f l + rv) = f l + rv := by rw [IntKind.wrap_i64]; omega
        go_wp2
        rw [FF.out]
        go_loopw [10, 11] (fun mv i wr' => ∃ t : Nat, t ≤ n - l ∧ i = .int .i64 ((l + t : Nat) : Int) ∧ Hid (MX w1.heap.size mv (matk cl F l t) wr') ∧ Hid (Below w1.heap.size w1 wr')) (fun _ i _ => n - (intOf i).toNat)
        case atStart => exact ⟨0, by omega, rfl, M0, BW0⟩
        case round =>
          clear M0 BW0 BW c0 c1 c2 c3 c4 c5
          obtain ⟨t, ht, rfl, HM, BW⟩ := hrel
          obtain ⟨c0, c1, c2, c3, c4, c5⟩ := HB6.out _ BW.out
          by_cases hlt : l + t < n
          · have g1 : ((l + t : Nat) : Int) < (n : Int) := by omega
            obtain ⟨r, hr⟩ : ∃ r, r = l + t := ⟨_, rfl⟩
            rw [← hr] at hlt g1 ⊢
            have HRr := Lib.hid hr
            clear hr
            generalize wr = W0 at *
            have FL := FF.out
            have HW0 : Hid (Below W0.heap.size W0 (W0.alloc (.cells #[] 3))) := Lib.hid (bl_al (Below.refl _ _) _)
            have HR0 : Hid (Ol W0.heap.size (.slice (some ⟨W0.heap.size, 0, none⟩) 0 0) ((rowF cl F (r)).take 0) (W0.alloc (.cells #[] 3))) := Lib.hid (own0 W0)
            go_wp2
            go_loopw [12, 13] (fun qv i wr => ∃ x : Nat, x ≤ n - l ∧ i = .int .i64 x ∧ Hid (Ol W0.heap.size qv ((rowF cl F (r)).take x) wr) ∧ Hid (Below W0.heap.size W0 wr)) (fun _ i _ => n - (intOf i).toNat)
            case atStart => exact ⟨0, by omega, rfl, HR0, HW0⟩
            case round =>
              clear HR0 HW0 c0 c1 c2 c3 c4 c5
              obtain ⟨x, hx, rfl, HR, HW⟩ := hrel
              have BQ := Lib.hid (bl_tr BW.out HW.out)
              have FL := FF.out
              have RT := Lib.hid (row_take cl F (r))
              have RL := Lib.hid (show (rowF cl F (r)).length = F.length by unfold rowF; simp)
              obtain ⟨c0, c1, c2, c3, c4, c5⟩ := HB6.out _ BQ.out
              by_cases hxl : x < n - l
              · obtain ⟨gt, go, b2, o2, cr, zn, rfl, hz, hzn, hc⟩ := HX.out (r) x hlt (by omega)
                obtain ⟨fb, fo, rfl, hf⟩ := HO.out x (by omega)
                have x1 : (x : Int) < ((n - l : Nat) : Int) := by omega
                have x0 : (0 : Int) ≤ (x : Int) := by omega
                have z0 : (0 : Int) ≤ (zn : Int) := by omega
                have z1 : (zn : Int) < (n : Int) := by omega
                have t0 : (0 : Int) ≤ ((r : Nat) : Int) := by omega
                have HRT := Lib.hid (RT.out x (by omega))
                rw [hzn] at hf
                rw [hzn, Int.toNat_natCast] at hc
                rw [hzn, Int.toNat_natCast] at HRT
                have HLE : Hid (((rowF cl F (r)).take x).length = x) := Lib.hid (by rw [List.length_take, RL.out]; omega)
                generalize od.nth (cl[r]?.getD []) zn = u at *
                generalize (rowF cl F (r)).take x = L at *
                obtain ⟨ra, rc, rfl⟩ := HR.out.form
                go_upto_region 17 with fail
                have HR := Lib.hid (HR.out.keep (S := []) (Tw.of (bl_drew wr)) (by simp))
                have HW := Lib.hid (bl_tr HW.out (bl_drew wr))
                have BQ := Lib.hid (bl_tr BQ.out (bl_drew wr))
                clear c0 c1 c2 c3 c4 c5
                refine HeldL.begin (fun W => Below w1.heap.size w1 W) 14 (by kernel_rfl) BQ.out (fun hHeld => ?_)
                generalize World.drew wr = Wd at *
                refine HeldL.take (k := 0) (v := ?vc0) (by rw [List.getElem?_toArray]; rfl) (by kernel_rfl) (by kernel_rfl) (by kernel_rfl) (by kernel_rfl) ?qc0 (Or.inl ⟨by rfl, ?yc0⟩) hHeld ?rc0
                case qc0 => exact fun _ _ _ h => h
                case yc0 => (intro wz hSw; go_simp; try (with_reducible rfl))
                try simp only [Act.put, List.setIfInBounds_toArray, List.set_cons_zero, List.set_cons_succ]
                refine HeldL.take (k := 1) (v := ?vc1) (by rw [List.getElem?_toArray]; rfl) (by kernel_rfl) (by kernel_rfl) (by kernel_rfl) (by kernel_rfl) ?qc1 (Or.inl ⟨by rfl, ?yc1⟩) hHeld ?rc1
                case qc1 => exact fun _ _ _ h => h
                case yc1 => (intro wz hSw; go_simp; try (with_reducible rfl))
                try simp only [Act.put, List.setIfInBounds_toArray, List.set_cons_zero, List.set_cons_succ]
                refine HeldL.take (k := 2) (v := ?vc2) (by rw [List.getElem?_toArray]; rfl) (by kernel_rfl) (by kernel_rfl) (by kernel_rfl) (by kernel_rfl) ?qc2 (Or.inl ⟨by rfl, ?yc2⟩) hHeld ?rc2
                case qc2 => exact fun _ _ _ h => h
                case yc2 => (intro wz hSw; have c5 := (HB6.out _ hSw).2.2.2.2.2; go_simp; try (with_reducible rfl))
                try simp only [Act.put, List.setIfInBounds_toArray, List.set_cons_zero, List.set_cons_succ]
                refine HeldL.take (k := 3) (v := ?vc3) (by rw [List.getElem?_toArray]; rfl) (by kernel_rfl) (by kernel_rfl) (by kernel_rfl) (by kernel_rfl) ?qc3 (Or.inl ⟨by rfl, ?yc3⟩) hHeld ?rc3
                case qc3 => exact fun _ _ _ h => h
                case yc3 => (intro wz hSw; go_simp; try (with_reducible rfl))
                try simp only [Act.put, List.setIfInBounds_toArray, List.set_cons_zero, List.set_cons_succ]
                refine HeldL.take (k := 4) (v := ?vc4) (by rw [List.getElem?_toArray]; rfl) (by kernel_rfl) (by kernel_rfl) (by kernel_rfl) (by kernel_rfl) ?qc4 (Or.inl ⟨by rfl, ?yc4⟩) hHeld ?rc4
                case qc4 => exact fun _ _ _ h => h
                case yc4 => (intro wz hSw; go_simp; try (with_reducible rfl))
                try simp only [Act.put, List.setIfInBounds_toArray, List.set_cons_zero, List.set_cons_succ]
                refine HeldL.take (k := 5) (v := ?vc5) (by rw [List.getElem?_toArray]; rfl) (by kernel_rfl) (by kernel_rfl) (by kernel_rfl) (by kernel_rfl) ?qc5 (Or.inl ⟨by rfl, ?yc5⟩) hHeld ?rc5
                case qc5 => exact fun _ _ _ h => h
                case yc5 => (intro wz hSw; have c9 := (hc _ (bl_tr B1.out hSw)).1; go_simp; try (with_reducible rfl))
                try simp only [Act.put, List.setIfInBounds_toArray, List.set_cons_zero, List.set_cons_succ]
                refine HeldL.take (k := 6) (v := ?vc6) (by rw [List.getElem?_toArray]; rfl) (by kernel_rfl) (by kernel_rfl) (by kernel_rfl) (by kernel_rfl) ?qc6 (Or.inl ⟨by rfl, ?yc6⟩) hHeld ?rc6
                case qc6 => exact fun _ _ _ h => h
                case yc6 => (intro wz hSw; go_simp; try (with_reducible rfl))
                try simp only [Act.put, List.setIfInBounds_toArray, List.set_cons_zero, List.set_cons_succ]
                refine HeldL.take (k := 7) (v := ?vc7) (by rw [List.getElem?_toArray]; rfl) (by kernel_rfl) (by kernel_rfl) (by kernel_rfl) (by kernel_rfl) ?qc7 (Or.inl ⟨by rfl, ?yc7⟩) hHeld ?rc7
                case qc7 => exact fun _ _ _ h => h
                case yc7 => (intro wz hSw; go_simp; try (with_reducible rfl))
                try simp only [Act.put, List.setIfInBounds_toArray, List.set_cons_zero, List.set_cons_succ]
                refine HeldL.take (k := 8) (v := ?vc8) (by rw [List.getElem?_toArray]; rfl) (by kernel_rfl) (by kernel_rfl) (by kernel_rfl) (by kernel_rfl) ?qc8 (Or.inl ⟨by rfl, ?yc8⟩) hHeld ?rc8
                case qc8 => exact fun _ _ _ h => h
                case yc8 => (intro wz hSw; go_simp; try (with_reducible rfl))
                try simp only [Act.put, List.setIfInBounds_toArray, List.set_cons_zero, List.set_cons_succ]
                refine HeldL.take (k := 9) (v := ?vc9) (by rw [List.getElem?_toArray]; rfl) (by kernel_rfl) (by kernel_rfl) (by kernel_rfl) (by kernel_rfl) ?qc9 (Or.inl ⟨by rfl, ?yc9⟩) hHeld ?rc9
                case qc9 => exact fun _ _ _ h => h
                case yc9 => (intro wz hSw; have c9 := hf _ hSw; go_simp; try (with_reducible rfl))
                try simp only [Act.put, List.setIfInBounds_toArray, List.set_cons_zero, List.set_cons_succ]
                refine HeldL.take (k := 10) (v := ?vc10) (by rw [List.getElem?_toArray]; rfl) (by kernel_rfl) (by kernel_rfl) (by kernel_rfl) (by kernel_rfl) ?qc10 (Or.inl ⟨by rfl, ?yc10⟩) hHeld ?rc10
                case qc10 => exact fun _ _ _ h => h
                case yc10 => (intro wz hSw; go_simp; try (with_reducible rfl))
                try simp only [Act.put, List.setIfInBounds_toArray, List.set_cons_zero, List.set_cons_succ]
                refine HeldL.take (k := 11) (v := ?vc11) (by rw [List.getElem?_toArray]; rfl) (by kernel_rfl) (by kernel_rfl) (by kernel_rfl) (by kernel_rfl) ?qc11 (Or.inl ⟨by rfl, ?yc11⟩) hHeld ?rc11
                case qc11 => exact fun _ _ _ h => h
                case yc11 => (intro wz hSw; have c9 := (hc _ (bl_tr B1.out hSw)).2; go_simp; try (with_reducible rfl))
                try simp only [Act.put, List.setIfInBounds_toArray, List.set_cons_zero, List.set_cons_succ]
                refine HeldL.one (k := 12) (by kernel_rfl) (by rw [List.getElem?_toArray]; rfl) (fun K hK => ?_)
                go_simp
                have NC := Lib.hid (heap_alloc_new Wd (.cells #[.int .i64 u] 3))
                have HR := Lib.hid (HR.out.keep (S := []) (Tw.of (bl_al (Below.refl _ Wd) (.cells #[.int .i64 u] 3))) (by simp))
                have HW := Lib.hid (bl_tr HW.out (bl_al (Below.refl _ Wd) (.cells #[.int .i64 u] 3)))
                have BQ := Lib.hid (bl_tr BQ.out (bl_al (Below.refl _ Wd) (.cells #[.int .i64 u] 3)))
                refine hK.out _ _ (fun _ => BQ.out) (fun hHeld0 => ?_)
                clear hK K hHeld hHeld0
                try simp only [Act.put, List.setIfInBounds_toArray, List.set_cons_zero, List.set_cons_succ]
                refine HeldL.one (k := 13) (by kernel_rfl) (by rw [List.getElem?_toArray]; rfl) (fun K hK => ?_)
                have NCC := (cell_of_row _ _ 0 _ 3 _ NC.out).trans (show _ = some (Value.int .i64 u) from rfl)
                refine step_app1 (by rfl) _ _ (by rfl) (by rfl) W0.heap.size _ L u Wd.heap.size (by rfl) (by rfl) (by have := HLE.out; omega) HR.out HW.out.size NCC ?_
                intro v' w9 ho9 t9
                have VB : ∀ i, i ∈ vb (.slice ra L.length rc) → W0.heap.size ≤ i := fun i hi => (HR.out.blk i hi).1
                have HW := Lib.hid (Tw.below HW.out t9 VB HW.out.size)
                have BQ := Lib.hid (bl_tr BW.out HW.out)
                have HR := Lib.hid ho9
                refine hK.out _ _ (fun _ => BQ.out) (fun hHeld0 => ?_)
                clear hK K hHeld0 NCC NC VB t9 ho9
                try simp only [Act.put, List.setIfInBounds_toArray, List.set_cons_zero, List.set_cons_succ]
                refine HeldL.one (k := 14) (by kernel_rfl) (by rw [List.getElem?_toArray]; rfl) (fun K hK => ?_)
                go_simp
                refine hK.out _ _ (fun h => absurd rfl h) (fun _ => ?_)
                clear hK K
                refine HeldL.over (by kernel_rfl) ?_ _
                go_wp2
                go_roundw
                case rel => exact ⟨x + 1, by omega, by go_num, by rw [HRT.out]; exact HR, HW⟩
                case measure => simp [intOf]; omega
              · obtain rfl : x = n - l := by omega
                have hTK : (rowF cl F (r)).take (n - l) = rowF cl F (r) := List.take_of_length_le (by rw [RL.out, FL]; exact Nat.le_refl _)
                have HR := HR
                rw [hTK] at HR
                have HMq := Lib.hid (HM.out.keep HW.out)
                have HMN := Lib.hid (show matk cl F l (t + 1) = matk cl F l t ++ [rowF cl F r] by rw [HRr.out]; exact MN.out t)
                have HMl := ML.out t
                have HM30 := Lib.hid (show (matk cl F l t).length ≤ 30 by omega)
                clear hTK HM HMl
                generalize rowF cl F (r) = row at *
                generalize hMM : matk cl F l t = M at *
                clear hMM
                obtain ⟨ra, rc, rfl⟩ := HR.out.form
                have hMB : w1.heap.size ≤ wr.heap.size := Nat.le_trans BW.out.size HW.out.size
                have HRB := Lib.hid (HR.out.mono BW.out.size)
                have OW := Lib.hid (Classical.choose_spec HMq.out)
                obtain ⟨i0, hi, hz0, hz1, hz2⟩ := info_parts info22
                clear c0 c1 c2 c3 c4 c5 FL
                go_wp2_with (at_builtin; refine wpList_append_own _ rfl _ _ 23 rfl w1.heap.size 22 i0 (.slice none 0 0) 1 24 Tryd.underlying23 hi hz0 hz1 hz2 rfl (by decide) _ M.length (Classical.choose HMq.out) rfl (OW.out.1.alloc _) ⟨wr.heap.size, 0, none⟩ 1 1 [.slice ra row.length rc] rfl rfl (cell_one_new _ _ _) (by simp [Value.oneCell']) (by have := HM30.out; unfold maxLen; omega) (by have := HM30.out; omega) (by simp; omega) ?_)
                intro v2 w6 hown hgrow _
                have HM6 := Lib.hid (MX.app HMq.out HRB.out hMB hown hgrow)
                have B6 := Lib.hid (Below.grown (bl_al BQ.out (.cells #[.slice ra row.length rc] 22)) hgrow (Nat.le_trans hMB (by simp)) (fun j hj => (OW.out.1.lt j hj).1))
                clear hown hgrow OW HMq
                go_wp2
                go_roundw
                case rel => exact ⟨t + 1, by have := HRr.out; omega, by rw [HRr.out]; go_num, by rw [HMN.out]; exact HM6, B6⟩
                case measure => simp [intOf]; omega
          · obtain rfl : t = n - l := by omega
            obtain ⟨ma, mc, rfl⟩ := HM.out.form
            rw [ML.out] at HM ⊢
            have RC := Lib.hid (RR.out w1.heap.size ma mc wr (by have := HM.out; rw [matk_mat] at this; exact this))
            have e9 : ((l + (n - l) : Nat) : Int) = (n : Int) := by omega
            have BG := Lib.hid (bl_tr B1.out BW.out)
            rw [e9]
            clear HM RR MN ML HB6 BW
            go_wp2_with fail
            refine RC.out.mono ?_; rintro e w3 ⟨rfl, hb3⟩
            have HE := Lib.hid (HG.out _ (bl_tr BG.out hb3))
            clear hb3
            go_wp2
            first
              | exact HE.out
              | (go_ret; exact HE.out)
end Go.Proofs.YtlhpiikpmmlpeaaDoor.kn
