/-
  The reference's Parse: a round of its loop over the items puts one number behind each of two lists.
-/
import Derived.Test.YtjojdpohifdghaaRk
import Derived.Deep.RegionHeld3
import Derived.IntWalk
namespace Go.Proofs.Ytjojdpohifdghaa
open Go.RowKit
set_option linter.unusedVariables false
def findReg (i : Nat) : Code → Option Code
  | .region j ops b => if j = i then some (.region j ops b) else none
  | .seq a b => match findReg i a with
    | some c => some c
    | none => findReg i b
  | .block _ c => findReg i c
  | .loop c => findReg i c
  | .scope c => findReg i c
  | .cond _ a b => match findReg i a with
    | some c => some c
    | none => findReg i b
  | _ => none
noncomputable def reg55 : Code := ((Try.f8.body.bind (findReg 55)).getD .skip)
set_option maxRecDepth 100000 in
set_option maxHeartbeats 16000000 in
theorem ref55 (T : List Tok) (nn k : Nat) (cp : Int) (n2 : nn ≤ 64) (hk : k < nn) (gl cn cl gi B : Nat) (hcn : cn = 1 + 2 * nn) (wL : World) (vW vV : Value) (wr : World) (h : KR T nn cp gl cn gi B wL k k vW vV vW vV wr)
    (Q : Exit → Act → World → Prop) (z0 z1 z2 z3 z4 z5 z6 z7 z8 z9 z10 z11 z13 z15 z16 z18 z19 z20 z21 z22 z23 z24 z25 z26 z27 z28 z29 z30 z31 z32 z33 z34 z35 z36 z37 z38 z39 z40 z41 z42 z43 z44 z45 z46 z47 z48 z49 z50 z51 z52 z53 z54 z55 z56 z57 z58 z59 z60 z61 z62 z63 z64 z65 z66 z67 z68 z69 z70 z71 z72 z73 z74 z75 z76 z77 z78 z79 z80 z81 z82 z83 z84 z85 z86 z87 z88 z89 z90 z91 z92 z93 z94 z95 z96 z97 z98 z99 z100 z101 z102 z103 z104 z105 z106 z107 z108 z109 z110 z111 z112 z113 z114 z115 z116 z117 z118 z119 z120 z121 z122 z123 z124 z125 z126 z127 z128 z129 z130 z131 z132 z133 z134 z135 z136 z137 z138 z139 z140 z141 z142 z143 z144 z145 z146 z147 z148 z149 z150 z151 z152 z153 z154 z155 z156 z157 z158 z159 z160 z161 z162 z163 z164 z165 z166 z167 z168 z169 z170 z171 z172 z173 z174 z175 z176 z177 z178 z179 z180 z181 z182 z183 z184 z185 z186 z187 z188 z189 z190 z191 z192 z193 z194 z195 z196 z197 z198 z199 z200 z201 z202 z203 z204 z205 z206 z207 z208 z209 z210 z211 z212 z213 z214 z215 z216 z217 z218 z219 z220 z221 z222 z223 z224 z225 z226 z227 z228 z229 z230 z231 z232 z233 z234 z235 z236 z237 z238 z239 z240 z241 z242 z243 z244 z245 z246 z247 z248 z249 z250 z251 z252 z253 z254 z255 z256 z257 z258 z259 z260 z261 z262 z263 z264 z265 z266 z267 z268 z269 z270 z271 z272 z273 z274 z275 z276 z277 z278 z279 z280 z281 z282 z283 z284 z285 z286 z287 z288 z289 z290 z291 z292 z293 z294 z295 z296 z297 z298 z299 z300 z301 z302 : Value) (hP : ∀ c a d v w, Q (.panic c) (Act.put a d v) w → Q (.panic c) a w)
    (hQ : ∀ (g5 cap5 g6 cap6 : Nat) (W : World) (q222 q223 q224 q225 q226 q227 q228 q229 q230 q231 q232 q233 q234 q235 q236 q237 q238 q239 q240 q241 q242 q243 : Value), KR T nn cp gl cn gi B wL (k + 1) (k + 1) (.slice (some ⟨g5, 0, none⟩) (k + 1) cap5) (.slice (some ⟨g6, 0, none⟩) (k + 1) cap6) (.slice (some ⟨g5, 0, none⟩) (k + 1) cap5) (.slice (some ⟨g6, 0, none⟩) (k + 1) cap6) W → Q .normal ⟨#[z0, z1, z2, z3, z4, z5, z6, z7, z8, z9, z10, z11, .pointer (some ⟨gi, 0, none⟩), z13, .slice (some ⟨gl, 0, none⟩) cn cl, z15, z16, .int .i64 k, z18, z19, z20, z21, z22, z23, z24, z25, z26, z27, z28, z29, z30, z31, z32, z33, z34, z35, z36, z37, z38, z39, z40, z41, z42, z43, z44, z45, z46, z47, z48, z49, z50, z51, z52, z53, z54, z55, z56, z57, z58, z59, z60, z61, z62, z63, z64, z65, z66, z67, z68, z69, z70, z71, z72, z73, z74, z75, z76, z77, z78, z79, z80, z81, z82, z83, z84, z85, z86, z87, z88, z89, z90, z91, z92, z93, z94, z95, z96, z97, z98, z99, z100, z101, z102, z103, z104, z105, z106, z107, z108, z109, z110, z111, z112, z113, z114, z115, z116, z117, z118, z119, z120, z121, z122, z123, z124, z125, z126, z127, z128, z129, z130, z131, z132, z133, z134, z135, z136, z137, z138, z139, z140, z141, z142, z143, z144, z145, z146, z147, z148, z149, z150, z151, z152, z153, z154, z155, z156, z157, z158, z159, z160, z161, z162, z163, z164, z165, z166, z167, z168, z169, z170, z171, z172, z173, z174, z175, z176, z177, z178, z179, z180, z181, z182, z183, z184, z185, z186, z187, z188, z189, z190, z191, z192, z193, z194, z195, z196, z197, z198, z199, z200, z201, z202, z203, z204, z205, z206, z207, z208, z209, z210, z211, z212, z213, z214, z215, z216, z217, z218, z219, z220, z221, q222, q223, q224, q225, q226, q227, q228, q229, q230, q231, q232, q233, q234, q235, q236, q237, q238, q239, q240, q241, q242, q243, z244, z245, z246, z247, z248, z249, z250, z251, z252, z253, z254, z255, z256, z257, z258, z259, z260, z261, z262, z263, z264, z265, z266, z267, z268, z269, z270, z271, z272, z273, z274, z275, z276, z277, z278, z279, z280, z281, z282, z283, z284, z285, z286, z287, z288, z289, z290, z291, z292, z293, z294, z295, z296, z297, z298, z299, z300, z301, z302], []⟩ W) :
    Code.wp Try.prog reg55 Q ⟨#[z0, z1, z2, z3, z4, z5, z6, z7, z8, z9, z10, z11, .pointer (some ⟨gi, 0, none⟩), z13, .slice (some ⟨gl, 0, none⟩) cn cl, z15, z16, .int .i64 k, z18, z19, z20, z21, z22, z23, z24, z25, z26, z27, z28, z29, z30, z31, z32, z33, z34, z35, z36, z37, z38, z39, z40, z41, z42, z43, z44, z45, z46, z47, z48, z49, z50, z51, z52, z53, z54, z55, z56, z57, z58, z59, z60, z61, z62, z63, z64, z65, z66, z67, z68, z69, z70, z71, z72, z73, z74, z75, z76, z77, z78, z79, z80, z81, z82, z83, z84, z85, z86, z87, z88, z89, z90, z91, z92, z93, z94, z95, z96, z97, z98, z99, z100, z101, z102, z103, z104, z105, z106, z107, z108, z109, z110, z111, z112, z113, z114, z115, z116, z117, z118, z119, z120, z121, z122, z123, z124, z125, z126, z127, z128, z129, z130, z131, z132, z133, z134, z135, z136, z137, z138, z139, z140, z141, z142, z143, z144, z145, z146, z147, z148, z149, z150, z151, z152, z153, z154, z155, z156, z157, z158, z159, z160, z161, z162, z163, z164, z165, z166, z167, z168, z169, z170, z171, z172, z173, z174, z175, z176, z177, z178, z179, z180, z181, z182, z183, z184, z185, z186, z187, z188, z189, z190, z191, z192, z193, z194, z195, z196, z197, z198, z199, z200, z201, z202, z203, z204, z205, z206, z207, z208, z209, z210, z211, z212, z213, z214, z215, z216, z217, z218, z219, z220, z221, z222, z223, z224, z225, z226, z227, z228, z229, z230, z231, z232, z233, z234, z235, z236, z237, z238, z239, z240, z241, z242, z243, z244, z245, z246, z247, z248, z249, z250, z251, z252, z253, z254, z255, z256, z257, z258, z259, z260, z261, z262, z263, z264, z265, z266, z267, z268, z269, z270, z271, z272, z273, z274, z275, z276, z277, z278, z279, z280, z281, z282, z283, z284, z285, z286, z287, z288, z289, z290, z291, z292, z293, z294, z295, z296, z297, z298, z299, z300, z301, z302], []⟩ wr := by
  obtain ⟨i0, hi, hz0, hz1, hz2⟩ := info_parts info3
  have HRT := Lib.hid hQ
  have HK := Lib.hid h
  obtain ⟨x7, hx7⟩ : ∃ x7, x7 = (tk T (2 + (1 + 2 * k))).num := ⟨_, rfl⟩
  obtain ⟨x17, hx17⟩ : ∃ x17, x17 = (tk T (2 + (2 + 2 * k))).num := ⟨_, rfl⟩
  have HX7 : Hid (some (Value.int .i64 (tk T (2 + (1 + 2 * k))).num) = some (.int .i64 x7)) := Lib.hid (by rw [hx7])
  have HX17 : Hid (some (Value.int .i64 (tk T (2 + (2 + 2 * k))).num) = some (.int .i64 x17)) := Lib.hid (by rw [hx17])
  have HY7 := Lib.hid hx7
  have HY17 := Lib.hid hx17
  clear hQ h hx7 hx17
  have g0 : (0 : Int) ≤ (k : Int) := by omega
  have g2 : 1 + 2 * (k : Int) < (cn : Int) := by omega
  have g3 : 2 + 2 * (k : Int) < (cn : Int) := by omega
  have g4 : (0 : Int) ≤ 1 + 2 * (k : Int) := by omega
  have g5 : (0 : Int) ≤ 2 + 2 * (k : Int) := by omega
  have e0 : IntKind.i64.wrap (2 * (k : Int)) = 2 * (k : Int) := IntWalk.i64_in _ (by omega)
  have e1 : IntKind.i64.wrap (1 + 2 * (k : Int)) = 1 + 2 * (k : Int) := IntWalk.i64_in _ (by omega)
  have e2 : IntKind.i64.wrap (2 + 2 * (k : Int)) = 2 + 2 * (k : Int) := IntWalk.i64_in _ (by omega)
  have e3 : (1 + 2 * (k : Int)).toNat = 1 + 2 * k := by omega
  have e4 : (2 + 2 * (k : Int)).toNat = 2 + 2 * k := by omega
  clear hcn
  unfold reg55
  conv => arg 2; whnf
  refine wp_region_held_drew (S := NL gl cn T) (by kernel_rfl) HK.out.drew.l (fun hHeld => ?_)
  have HKd := Lib.hid HK.out.drew
  clear HK
  have HK := HKd
  clear HKd
  generalize World.drew _ = vu1 at *
  refine wpAnyH_take (i := 0) (v := ?vu2) (by rw [List.getElem?_toArray]; rfl) (by kernel_rfl) (by kernel_rfl) (by kernel_rfl) ?ku2 (Or.inl ⟨by rfl, ?yu2⟩) hHeld ?ru2
  case ku2 => exact fun c a w h => hP c a _ _ w h
  case yu2 => (intro wz hSw; clear hSw; go_simp; try (with_reducible rfl))
  simp only [Act.put, List.setIfInBounds_toArray, List.set_cons_zero, List.set_cons_succ]
  refine wpAnyH_take (i := 2) (v := ?vu3) (by rw [List.getElem?_toArray]; rfl) (by kernel_rfl) (by kernel_rfl) (by kernel_rfl) ?ku3 (Or.inl ⟨by rfl, ?yu3⟩) hHeld ?ru3
  case ku3 => exact fun c a w h => hP c a _ _ w h
  case yu3 => (intro wz hSw; clear hSw; go_simp; try (with_reducible rfl))
  simp only [Act.put, List.setIfInBounds_toArray, List.set_cons_zero, List.set_cons_succ]
  refine wpAnyH_take (i := 3) (v := ?vu4) (by rw [List.getElem?_toArray]; rfl) (by kernel_rfl) (by kernel_rfl) (by kernel_rfl) ?ku4 (Or.inl ⟨by rfl, ?yu4⟩) hHeld ?ru4
  case ku4 => exact fun c a w h => hP c a _ _ w h
  case yu4 => (intro wz hSw; clear hSw; go_simp; try (with_reducible rfl))
  simp only [Act.put, List.setIfInBounds_toArray, List.set_cons_zero, List.set_cons_succ]
  refine wpAnyH_take (i := 4) (v := ?vu5) (by rw [List.getElem?_toArray]; rfl) (by kernel_rfl) (by kernel_rfl) (by kernel_rfl) ?ku5 (Or.inl ⟨by rfl, ?yu5⟩) hHeld ?ru5
  case ku5 => exact fun c a w h => hP c a _ _ w h
  case yu5 => (intro wz hSw; clear hSw; go_simp; try (with_reducible rfl))
  simp only [Act.put, List.setIfInBounds_toArray, List.set_cons_zero, List.set_cons_succ]
  refine wpAnyH_take (i := 5) (v := ?vu6) (by rw [List.getElem?_toArray]; rfl) (by kernel_rfl) (by kernel_rfl) (by kernel_rfl) ?ku6 (Or.inl ⟨by rfl, ?yu6⟩) hHeld ?ru6
  case ku6 => exact fun c a w h => hP c a _ _ w h
  case yu6 => (intro wz hSw; clear hSw; go_simp; try (with_reducible rfl))
  simp only [Act.put, List.setIfInBounds_toArray, List.set_cons_zero, List.set_cons_succ]
  refine wpAnyH_take (i := 6) (v := ?vu7) (by rw [List.getElem?_toArray]; rfl) (by kernel_rfl) (by kernel_rfl) (by kernel_rfl) ?ku7 (Or.inl ⟨by rfl, ?yu7⟩) hHeld ?ru7
  case ku7 => exact fun c a w h => hP c a _ _ w h
  case yu7 => (intro wz hSw; clear hSw; go_simp; try (with_reducible rfl))
  simp only [Act.put, List.setIfInBounds_toArray, List.set_cons_zero, List.set_cons_succ]
  refine wpAnyH_take (i := 7) (v := ?vu8) (by rw [List.getElem?_toArray]; rfl) (by kernel_rfl) (by kernel_rfl) (by kernel_rfl) ?ku8 (Or.inl ⟨by rfl, ?yu8⟩) hHeld ?ru8
  case ku8 => exact fun c a w h => hP c a _ _ w h
  case yu8 => (intro wz hSw; have cz := (hSw (1 + 2 * k) (by omega)).trans HX7.out; go_simp; try (with_reducible rfl))
  simp only [Act.put, List.setIfInBounds_toArray, List.set_cons_zero, List.set_cons_succ]
  refine wpAnyH_take (i := 10) (v := ?vu9) (by rw [List.getElem?_toArray]; rfl) (by kernel_rfl) (by kernel_rfl) (by kernel_rfl) ?ku9 (Or.inl ⟨by rfl, ?yu9⟩) hHeld ?ru9
  case ku9 => exact fun c a w h => hP c a _ _ w h
  case yu9 => (intro wz hSw; clear hSw; go_simp; try (with_reducible rfl))
  simp only [Act.put, List.setIfInBounds_toArray, List.set_cons_zero, List.set_cons_succ]
  refine wpAnyH_take (i := 12) (v := ?vu10) (by rw [List.getElem?_toArray]; rfl) (by kernel_rfl) (by kernel_rfl) (by kernel_rfl) ?ku10 (Or.inl ⟨by rfl, ?yu10⟩) hHeld ?ru10
  case ku10 => exact fun c a w h => hP c a _ _ w h
  case yu10 => (intro wz hSw; clear hSw; go_simp; try (with_reducible rfl))
  simp only [Act.put, List.setIfInBounds_toArray, List.set_cons_zero, List.set_cons_succ]
  refine wpAnyH_take (i := 13) (v := ?vu11) (by rw [List.getElem?_toArray]; rfl) (by kernel_rfl) (by kernel_rfl) (by kernel_rfl) ?ku11 (Or.inl ⟨by rfl, ?yu11⟩) hHeld ?ru11
  case ku11 => exact fun c a w h => hP c a _ _ w h
  case yu11 => (intro wz hSw; clear hSw; go_simp; try (with_reducible rfl))
  simp only [Act.put, List.setIfInBounds_toArray, List.set_cons_zero, List.set_cons_succ]
  refine wpAnyH_take (i := 14) (v := ?vu12) (by rw [List.getElem?_toArray]; rfl) (by kernel_rfl) (by kernel_rfl) (by kernel_rfl) ?ku12 (Or.inl ⟨by rfl, ?yu12⟩) hHeld ?ru12
  case ku12 => exact fun c a w h => hP c a _ _ w h
  case yu12 => (intro wz hSw; clear hSw; go_simp; try (with_reducible rfl))
  simp only [Act.put, List.setIfInBounds_toArray, List.set_cons_zero, List.set_cons_succ]
  refine wpAnyH_take (i := 15) (v := ?vu13) (by rw [List.getElem?_toArray]; rfl) (by kernel_rfl) (by kernel_rfl) (by kernel_rfl) ?ku13 (Or.inl ⟨by rfl, ?yu13⟩) hHeld ?ru13
  case ku13 => exact fun c a w h => hP c a _ _ w h
  case yu13 => (intro wz hSw; clear hSw; go_simp; try (with_reducible rfl))
  simp only [Act.put, List.setIfInBounds_toArray, List.set_cons_zero, List.set_cons_succ]
  refine wpAnyH_take (i := 16) (v := ?vu14) (by rw [List.getElem?_toArray]; rfl) (by kernel_rfl) (by kernel_rfl) (by kernel_rfl) ?ku14 (Or.inl ⟨by rfl, ?yu14⟩) hHeld ?ru14
  case ku14 => exact fun c a w h => hP c a _ _ w h
  case yu14 => (intro wz hSw; clear hSw; go_simp; try (with_reducible rfl))
  simp only [Act.put, List.setIfInBounds_toArray, List.set_cons_zero, List.set_cons_succ]
  refine wpAnyH_take (i := 17) (v := ?vu15) (by rw [List.getElem?_toArray]; rfl) (by kernel_rfl) (by kernel_rfl) (by kernel_rfl) ?ku15 (Or.inl ⟨by rfl, ?yu15⟩) hHeld ?ru15
  case ku15 => exact fun c a w h => hP c a _ _ w h
  case yu15 => (intro wz hSw; have cz := (hSw (2 + 2 * k) (by omega)).trans HX17.out; go_simp; try (with_reducible rfl))
  simp only [Act.put, List.setIfInBounds_toArray, List.set_cons_zero, List.set_cons_succ]
  refine wpAnyH_ready (rs := [1, 8, 11, 18]) (by kernel_rfl) (by simp) ?_
  refine AllReadyH.cons (by rw [List.getElem?_toArray]; rfl) (fun K hK => ?_) (AllReadyH.cons (by rw [List.getElem?_toArray]; rfl) (fun K hK => ?_) (AllReadyH.cons (by rw [List.getElem?_toArray]; rfl) (fun K hK => ?_) (AllReadyH.cons (by rw [List.getElem?_toArray]; rfl) (fun K hK => ?_) AllReadyH.nil)))
  · have c5 : vu1.cell? ⟨gi, 3, none⟩ = some vW := cell_of_row _ gi 3 _ 26 _ HK.out.box
    clear hHeld
    go_simp
    refine hK.out _ _ HK.out.l (fun hHeld => ?_)
    clear hK K c5
    refine wpAnyH_ready (rs := [8, 11, 18]) (by kernel_rfl) (by simp) ?_
    refine AllReadyH.cons (by rw [List.getElem?_toArray]; rfl) (fun K hK => ?_) (AllReadyH.cons (by rw [List.getElem?_toArray]; rfl) (fun K hK => ?_) (AllReadyH.cons (by rw [List.getElem?_toArray]; rfl) (fun K hK => ?_) AllReadyH.nil))
    · clear hHeld
      go_simp
      have c8 := Lib.hid (one_new vu1 (.int .i64 x7))
      have HKd := Lib.hid (HK.out.alloc (.cells #[(.int .i64 x7)] 3))
      clear HK
      have HK := HKd
      clear HKd
      refine hK.out _ _ HK.out.l (fun hHeld => ?_)
      clear hK K
      generalize (vu1.alloc (.cells #[(.int .i64 x7)] 3)) = vu16 at *
      generalize vu1.heap.size = p8 at *
      refine wpAnyH_ready (rs := [9, 11, 18]) (by kernel_rfl) (by simp) ?_
      refine AllReadyH.cons (by rw [List.getElem?_toArray]; rfl) (fun K hK => ?_) (AllReadyH.cons (by rw [List.getElem?_toArray]; rfl) (fun K hK => ?_) (AllReadyH.cons (by rw [List.getElem?_toArray]; rfl) (fun K hK => ?_) AllReadyH.nil))
      · clear hHeld
        rw [if_pos (by rfl)]
        refine wp_append_lies _ _ _ 23 rfl B 3 i0 (.int .i64 0) 1 8 Try.underlying23 hi hz0 hz1 hz2 rfl (by decide) vW k _ rfl HK.out.rw ⟨p8, 0, none⟩ 1 1 [(.int .i64 x7)] rfl rfl (one_news c8.out) (by simp [Value.oneCell']) (by decide) (by unfold maxLen; omega) (by omega) HK.out.sz _ rfl ?_
        intro g5 cap5 w5 hown5 hgrow5 hl5 hlt5
        have HKd := Lib.hid (HK.out.addW HY7.out hown5 hgrow5 hl5)
        clear HK
        have HK := HKd
        clear HKd c8
        clear hown5 hgrow5 hl5 hlt5
        refine hK.out _ _ HK.out.l (fun hHeld => ?_)
        clear hK K
        refine wpAnyH_ready (rs := [11, 18]) (by kernel_rfl) (by simp) ?_
        refine AllReadyH.cons (by rw [List.getElem?_toArray]; rfl) (fun K hK => ?_) (AllReadyH.cons (by rw [List.getElem?_toArray]; rfl) (fun K hK => ?_) AllReadyH.nil)
        · have c5 : w5.cell? ⟨gi, 4, none⟩ = some vV := cell_of_row _ gi 4 _ 26 _ HK.out.box
          clear hHeld
          go_simp
          refine hK.out _ _ HK.out.l (fun hHeld => ?_)
          clear hK K c5
          refine wpAnyH_take (i := 20) (v := ?vu17) (by rw [List.getElem?_toArray]; rfl) (by kernel_rfl) (by kernel_rfl) (by kernel_rfl) ?ku17 (Or.inl ⟨by rfl, ?yu17⟩) hHeld ?ru17
          case ku17 => exact fun c a w h => hP c a _ _ w h
          case yu17 => (intro wz hSw; clear hSw; go_simp; try (with_reducible rfl))
          simp only [Act.put, List.setIfInBounds_toArray, List.set_cons_zero, List.set_cons_succ]
          refine wpAnyH_ready (rs := [18]) (by kernel_rfl) (by simp) ?_
          refine AllReadyH.cons (by rw [List.getElem?_toArray]; rfl) (fun K hK => ?_) AllReadyH.nil
          clear hHeld
          go_simp
          have c18 := Lib.hid (one_new w5 (.int .i64 x17))
          have HKd := Lib.hid (HK.out.alloc (.cells #[(.int .i64 x17)] 3))
          clear HK
          have HK := HKd
          clear HKd
          refine hK.out _ _ HK.out.l (fun hHeld => ?_)
          clear hK K
          generalize (w5.alloc (.cells #[(.int .i64 x17)] 3)) = vu18 at *
          generalize w5.heap.size = p18 at *
          refine wpAnyH_ready (rs := [19]) (by kernel_rfl) (by simp) ?_
          refine AllReadyH.cons (by rw [List.getElem?_toArray]; rfl) (fun K hK => ?_) AllReadyH.nil
          clear hHeld
          rw [if_pos (by rfl)]
          refine wp_append_lies _ _ _ 23 rfl B 3 i0 (.int .i64 0) 1 8 Try.underlying23 hi hz0 hz1 hz2 rfl (by decide) vV k _ rfl HK.out.rv ⟨p18, 0, none⟩ 1 1 [(.int .i64 x17)] rfl rfl (one_news c18.out) (by simp [Value.oneCell']) (by decide) (by unfold maxLen; omega) (by omega) HK.out.sz _ rfl ?_
          intro g6 cap6 w6 hown6 hgrow6 hl6 hlt6
          have HKd := Lib.hid (HK.out.addV HY17.out hown6 hgrow6 hl6)
          clear HK
          have HK := HKd
          clear HKd c18
          clear hown6 hgrow6 hl6 hlt6
          refine hK.out _ _ HK.out.l (fun hHeld => ?_)
          clear hK K
          refine wpAnyH_ready (rs := [21]) (by kernel_rfl) (by simp) ?_
          refine AllReadyH.cons (by rw [List.getElem?_toArray]; rfl) (fun K hK => ?_) AllReadyH.nil
          have c5 := cell_of_row _ gi 3 _ 26 _ HK.out.box
          have f5 : World.frozen? _ ⟨gi, 3, none⟩ = false := frozen_of_row _ gi 3 _ 26 HK.out.box
          simp at c5
          clear hHeld
          go_simp
          have HKd := Lib.hid (kr_put HK.out 3 (.slice (some ⟨g5, 0, none⟩) (k + 1) cap5) rfl)
          clear HK
          have HK := HKd
          clear HKd
          refine hK.out _ _ HK.out.l (fun hHeld => ?_)
          clear hK K c5 f5
          refine wpAnyH_take (i := 22) (v := ?vu19) (by rw [List.getElem?_toArray]; rfl) (by kernel_rfl) (by kernel_rfl) (by kernel_rfl) ?ku19 (Or.inl ⟨by rfl, ?yu19⟩) hHeld ?ru19
          case ku19 => exact fun c a w h => hP c a _ _ w h
          case yu19 => (intro wz hSw; clear hSw; go_simp; try (with_reducible rfl))
          simp only [Act.put, List.setIfInBounds_toArray, List.set_cons_zero, List.set_cons_succ]
          refine wpAnyH_ready (rs := [23]) (by kernel_rfl) (by simp) ?_
          refine AllReadyH.cons (by rw [List.getElem?_toArray]; rfl) (fun K hK => ?_) AllReadyH.nil
          have c5 := cell_of_row _ gi 4 _ 26 _ HK.out.box
          have f5 : World.frozen? _ ⟨gi, 4, none⟩ = false := frozen_of_row _ gi 4 _ 26 HK.out.box
          simp at c5
          clear hHeld
          go_simp
          have HKd := Lib.hid (kr_put HK.out 4 (.slice (some ⟨g6, 0, none⟩) (k + 1) cap6) rfl)
          clear HK
          have HK := HKd
          clear HKd
          refine hK.out _ _ HK.out.l (fun hHeld => ?_)
          clear hK K c5 f5 hHeld
          refine wpAnyH_done (by kernel_rfl) ?_ _
          exact HRT.out _ _ _ _ _ _ _ _ _ _ _ _ _ _ _ _ _ _ _ _ _ _ _ _ _ _ _ HK.out
        · clear hHeld
          go_simp
          have c18 := Lib.hid (one_new w5 (.int .i64 x17))
          have HKd := Lib.hid (HK.out.alloc (.cells #[(.int .i64 x17)] 3))
          clear HK
          have HK := HKd
          clear HKd
          refine hK.out _ _ HK.out.l (fun hHeld => ?_)
          clear hK K
          generalize (w5.alloc (.cells #[(.int .i64 x17)] 3)) = vu20 at *
          generalize w5.heap.size = p18 at *
          refine wpAnyH_ready (rs := [11]) (by kernel_rfl) (by simp) ?_
          refine AllReadyH.cons (by rw [List.getElem?_toArray]; rfl) (fun K hK => ?_) AllReadyH.nil
          have c5 : vu20.cell? ⟨gi, 4, none⟩ = some vV := cell_of_row _ gi 4 _ 26 _ HK.out.box
          clear hHeld
          go_simp
          refine hK.out _ _ HK.out.l (fun hHeld => ?_)
          clear hK K c5
          refine wpAnyH_take (i := 20) (v := ?vu21) (by rw [List.getElem?_toArray]; rfl) (by kernel_rfl) (by kernel_rfl) (by kernel_rfl) ?ku21 (Or.inl ⟨by rfl, ?yu21⟩) hHeld ?ru21
          case ku21 => exact fun c a w h => hP c a _ _ w h
          case yu21 => (intro wz hSw; clear hSw; go_simp; try (with_reducible rfl))
          simp only [Act.put, List.setIfInBounds_toArray, List.set_cons_zero, List.set_cons_succ]
          refine wpAnyH_ready (rs := [19]) (by kernel_rfl) (by simp) ?_
          refine AllReadyH.cons (by rw [List.getElem?_toArray]; rfl) (fun K hK => ?_) AllReadyH.nil
          clear hHeld
          rw [if_pos (by rfl)]
          refine wp_append_lies _ _ _ 23 rfl B 3 i0 (.int .i64 0) 1 8 Try.underlying23 hi hz0 hz1 hz2 rfl (by decide) vV k _ rfl HK.out.rv ⟨p18, 0, none⟩ 1 1 [(.int .i64 x17)] rfl rfl (one_news c18.out) (by simp [Value.oneCell']) (by decide) (by unfold maxLen; omega) (by omega) HK.out.sz _ rfl ?_
          intro g6 cap6 w6 hown6 hgrow6 hl6 hlt6
          have HKd := Lib.hid (HK.out.addV HY17.out hown6 hgrow6 hl6)
          clear HK
          have HK := HKd
          clear HKd c18
          clear hown6 hgrow6 hl6 hlt6
          refine hK.out _ _ HK.out.l (fun hHeld => ?_)
          clear hK K
          refine wpAnyH_ready (rs := [21]) (by kernel_rfl) (by simp) ?_
          refine AllReadyH.cons (by rw [List.getElem?_toArray]; rfl) (fun K hK => ?_) AllReadyH.nil
          have c5 := cell_of_row _ gi 3 _ 26 _ HK.out.box
          have f5 : World.frozen? _ ⟨gi, 3, none⟩ = false := frozen_of_row _ gi 3 _ 26 HK.out.box
          simp at c5
          clear hHeld
          go_simp
          have HKd := Lib.hid (kr_put HK.out 3 (.slice (some ⟨g5, 0, none⟩) (k + 1) cap5) rfl)
          clear HK
          have HK := HKd
          clear HKd
          refine hK.out _ _ HK.out.l (fun hHeld => ?_)
          clear hK K c5 f5
          refine wpAnyH_take (i := 22) (v := ?vu22) (by rw [List.getElem?_toArray]; rfl) (by kernel_rfl) (by kernel_rfl) (by kernel_rfl) ?ku22 (Or.inl ⟨by rfl, ?yu22⟩) hHeld ?ru22
          case ku22 => exact fun c a w h => hP c a _ _ w h
          case yu22 => (intro wz hSw; clear hSw; go_simp; try (with_reducible rfl))
          simp only [Act.put, List.setIfInBounds_toArray, List.set_cons_zero, List.set_cons_succ]
          refine wpAnyH_ready (rs := [23]) (by kernel_rfl) (by simp) ?_
          refine AllReadyH.cons (by rw [List.getElem?_toArray]; rfl) (fun K hK => ?_) AllReadyH.nil
          have c5 := cell_of_row _ gi 4 _ 26 _ HK.out.box
          have f5 : World.frozen? _ ⟨gi, 4, none⟩ = false := frozen_of_row _ gi 4 _ 26 HK.out.box
          simp at c5
          clear hHeld
          go_simp
          have HKd := Lib.hid (kr_put HK.out 4 (.slice (some ⟨g6, 0, none⟩) (k + 1) cap6) rfl)
          clear HK
          have HK := HKd
          clear HKd
          refine hK.out _ _ HK.out.l (fun hHeld => ?_)
          clear hK K c5 f5 hHeld
          refine wpAnyH_done (by kernel_rfl) ?_ _
          exact HRT.out _ _ _ _ _ _ _ _ _ _ _ _ _ _ _ _ _ _ _ _ _ _ _ _ _ _ _ HK.out
      · have c5 : vu16.cell? ⟨gi, 4, none⟩ = some vV := cell_of_row _ gi 4 _ 26 _ HK.out.box
        clear hHeld
        go_simp
        refine hK.out _ _ HK.out.l (fun hHeld => ?_)
        clear hK K c5
        refine wpAnyH_ready (rs := [9, 18]) (by kernel_rfl) (by simp) ?_
        refine AllReadyH.cons (by rw [List.getElem?_toArray]; rfl) (fun K hK => ?_) (AllReadyH.cons (by rw [List.getElem?_toArray]; rfl) (fun K hK => ?_) AllReadyH.nil)
        · clear hHeld
          rw [if_pos (by rfl)]
          refine wp_append_lies _ _ _ 23 rfl B 3 i0 (.int .i64 0) 1 8 Try.underlying23 hi hz0 hz1 hz2 rfl (by decide) vW k _ rfl HK.out.rw ⟨p8, 0, none⟩ 1 1 [(.int .i64 x7)] rfl rfl (one_news c8.out) (by simp [Value.oneCell']) (by decide) (by unfold maxLen; omega) (by omega) HK.out.sz _ rfl ?_
          intro g5 cap5 w5 hown5 hgrow5 hl5 hlt5
          have HKd := Lib.hid (HK.out.addW HY7.out hown5 hgrow5 hl5)
          clear HK
          have HK := HKd
          clear HKd c8
          clear hown5 hgrow5 hl5 hlt5
          refine hK.out _ _ HK.out.l (fun hHeld => ?_)
          clear hK K
          refine wpAnyH_take (i := 20) (v := ?vu23) (by rw [List.getElem?_toArray]; rfl) (by kernel_rfl) (by kernel_rfl) (by kernel_rfl) ?ku23 (Or.inl ⟨by rfl, ?yu23⟩) hHeld ?ru23
          case ku23 => exact fun c a w h => hP c a _ _ w h
          case yu23 => (intro wz hSw; clear hSw; go_simp; try (with_reducible rfl))
          simp only [Act.put, List.setIfInBounds_toArray, List.set_cons_zero, List.set_cons_succ]
          refine wpAnyH_ready (rs := [18]) (by kernel_rfl) (by simp) ?_
          refine AllReadyH.cons (by rw [List.getElem?_toArray]; rfl) (fun K hK => ?_) AllReadyH.nil
          clear hHeld
          go_simp
          have c18 := Lib.hid (one_new w5 (.int .i64 x17))
          have HKd := Lib.hid (HK.out.alloc (.cells #[(.int .i64 x17)] 3))
          clear HK
          have HK := HKd
          clear HKd
          refine hK.out _ _ HK.out.l (fun hHeld => ?_)
          clear hK K
          generalize (w5.alloc (.cells #[(.int .i64 x17)] 3)) = vu24 at *
          generalize w5.heap.size = p18 at *
          refine wpAnyH_ready (rs := [19]) (by kernel_rfl) (by simp) ?_
          refine AllReadyH.cons (by rw [List.getElem?_toArray]; rfl) (fun K hK => ?_) AllReadyH.nil
          clear hHeld
          rw [if_pos (by rfl)]
          refine wp_append_lies _ _ _ 23 rfl B 3 i0 (.int .i64 0) 1 8 Try.underlying23 hi hz0 hz1 hz2 rfl (by decide) vV k _ rfl HK.out.rv ⟨p18, 0, none⟩ 1 1 [(.int .i64 x17)] rfl rfl (one_news c18.out) (by simp [Value.oneCell']) (by decide) (by unfold maxLen; omega) (by omega) HK.out.sz _ rfl ?_
          intro g6 cap6 w6 hown6 hgrow6 hl6 hlt6
          have HKd := Lib.hid (HK.out.addV HY17.out hown6 hgrow6 hl6)
          clear HK
          have HK := HKd
          clear HKd c18
          clear hown6 hgrow6 hl6 hlt6
          refine hK.out _ _ HK.out.l (fun hHeld => ?_)
          clear hK K
          refine wpAnyH_ready (rs := [21]) (by kernel_rfl) (by simp) ?_
          refine AllReadyH.cons (by rw [List.getElem?_toArray]; rfl) (fun K hK => ?_) AllReadyH.nil
          have c5 := cell_of_row _ gi 3 _ 26 _ HK.out.box
          have f5 : World.frozen? _ ⟨gi, 3, none⟩ = false := frozen_of_row _ gi 3 _ 26 HK.out.box
          simp at c5
          clear hHeld
          go_simp
          have HKd := Lib.hid (kr_put HK.out 3 (.slice (some ⟨g5, 0, none⟩) (k + 1) cap5) rfl)
          clear HK
          have HK := HKd
          clear HKd
          refine hK.out _ _ HK.out.l (fun hHeld => ?_)
          clear hK K c5 f5
          refine wpAnyH_take (i := 22) (v := ?vu25) (by rw [List.getElem?_toArray]; rfl) (by kernel_rfl) (by kernel_rfl) (by kernel_rfl) ?ku25 (Or.inl ⟨by rfl, ?yu25⟩) hHeld ?ru25
          case ku25 => exact fun c a w h => hP c a _ _ w h
          case yu25 => (intro wz hSw; clear hSw; go_simp; try (with_reducible rfl))
          simp only [Act.put, List.setIfInBounds_toArray, List.set_cons_zero, List.set_cons_succ]
          refine wpAnyH_ready (rs := [23]) (by kernel_rfl) (by simp) ?_
          refine AllReadyH.cons (by rw [List.getElem?_toArray]; rfl) (fun K hK => ?_) AllReadyH.nil
          have c5 := cell_of_row _ gi 4 _ 26 _ HK.out.box
          have f5 : World.frozen? _ ⟨gi, 4, none⟩ = false := frozen_of_row _ gi 4 _ 26 HK.out.box
          simp at c5
          clear hHeld
          go_simp
          have HKd := Lib.hid (kr_put HK.out 4 (.slice (some ⟨g6, 0, none⟩) (k + 1) cap6) rfl)
          clear HK
          have HK := HKd
          clear HKd
          refine hK.out _ _ HK.out.l (fun hHeld => ?_)
          clear hK K c5 f5 hHeld
          refine wpAnyH_done (by kernel_rfl) ?_ _
          exact HRT.out _ _ _ _ _ _ _ _ _ _ _ _ _ _ _ _ _ _ _ _ _ _ _ _ _ _ _ HK.out
        · clear hHeld
          go_simp
          have n18 := Lib.hid (row_fresh HK.out.rw)
          have c18 := Lib.hid (one_new vu16 (.int .i64 x17))
          have c8x := Lib.hid (one_alloc c8.out (.cells #[(.int .i64 x17)] 3))
          clear c8
          have c8 := c8x
          clear c8x
          have HKd := Lib.hid (HK.out.alloc (.cells #[(.int .i64 x17)] 3))
          clear HK
          have HK := HKd
          clear HKd
          refine hK.out _ _ HK.out.l (fun hHeld => ?_)
          clear hK K
          generalize (vu16.alloc (.cells #[(.int .i64 x17)] 3)) = vu26 at *
          generalize vu16.heap.size = p18 at *
          refine wpAnyH_ready (rs := [9]) (by kernel_rfl) (by simp) ?_
          refine AllReadyH.cons (by rw [List.getElem?_toArray]; rfl) (fun K hK => ?_) AllReadyH.nil
          clear hHeld
          rw [if_pos (by rfl)]
          refine wp_append_lies _ _ _ 23 rfl B 3 i0 (.int .i64 0) 1 8 Try.underlying23 hi hz0 hz1 hz2 rfl (by decide) vW k _ rfl HK.out.rw ⟨p8, 0, none⟩ 1 1 [(.int .i64 x7)] rfl rfl (one_news c8.out) (by simp [Value.oneCell']) (by decide) (by unfold maxLen; omega) (by omega) HK.out.sz _ rfl ?_
          intro g5 cap5 w5 hown5 hgrow5 hl5 hlt5
          have HKd := Lib.hid (HK.out.addW HY7.out hown5 hgrow5 hl5)
          clear HK
          have HK := HKd
          clear HKd c8
          have c18x := Lib.hid (one_kept c18.out hgrow5 n18.out)
          clear c18 n18
          have c18 := c18x
          clear c18x
          clear hown5 hgrow5 hl5 hlt5
          refine hK.out _ _ HK.out.l (fun hHeld => ?_)
          clear hK K
          refine wpAnyH_take (i := 20) (v := ?vu27) (by rw [List.getElem?_toArray]; rfl) (by kernel_rfl) (by kernel_rfl) (by kernel_rfl) ?ku27 (Or.inl ⟨by rfl, ?yu27⟩) hHeld ?ru27
          case ku27 => exact fun c a w h => hP c a _ _ w h
          case yu27 => (intro wz hSw; clear hSw; go_simp; try (with_reducible rfl))
          simp only [Act.put, List.setIfInBounds_toArray, List.set_cons_zero, List.set_cons_succ]
          refine wpAnyH_ready (rs := [19]) (by kernel_rfl) (by simp) ?_
          refine AllReadyH.cons (by rw [List.getElem?_toArray]; rfl) (fun K hK => ?_) AllReadyH.nil
          clear hHeld
          rw [if_pos (by rfl)]
          refine wp_append_lies _ _ _ 23 rfl B 3 i0 (.int .i64 0) 1 8 Try.underlying23 hi hz0 hz1 hz2 rfl (by decide) vV k _ rfl HK.out.rv ⟨p18, 0, none⟩ 1 1 [(.int .i64 x17)] rfl rfl (one_news c18.out) (by simp [Value.oneCell']) (by decide) (by unfold maxLen; omega) (by omega) HK.out.sz _ rfl ?_
          intro g6 cap6 w6 hown6 hgrow6 hl6 hlt6
          have HKd := Lib.hid (HK.out.addV HY17.out hown6 hgrow6 hl6)
          clear HK
          have HK := HKd
          clear HKd c18
          clear hown6 hgrow6 hl6 hlt6
          refine hK.out _ _ HK.out.l (fun hHeld => ?_)
          clear hK K
          refine wpAnyH_ready (rs := [21]) (by kernel_rfl) (by simp) ?_
          refine AllReadyH.cons (by rw [List.getElem?_toArray]; rfl) (fun K hK => ?_) AllReadyH.nil
          have c5 := cell_of_row _ gi 3 _ 26 _ HK.out.box
          have f5 : World.frozen? _ ⟨gi, 3, none⟩ = false := frozen_of_row _ gi 3 _ 26 HK.out.box
          simp at c5
          clear hHeld
          go_simp
          have HKd := Lib.hid (kr_put HK.out 3 (.slice (some ⟨g5, 0, none⟩) (k + 1) cap5) rfl)
          clear HK
          have HK := HKd
          clear HKd
          refine hK.out _ _ HK.out.l (fun hHeld => ?_)
          clear hK K c5 f5
          refine wpAnyH_take (i := 22) (v := ?vu28) (by rw [List.getElem?_toArray]; rfl) (by kernel_rfl) (by kernel_rfl) (by kernel_rfl) ?ku28 (Or.inl ⟨by rfl, ?yu28⟩) hHeld ?ru28
          case ku28 => exact fun c a w h => hP c a _ _ w h
          case yu28 => (intro wz hSw; clear hSw; go_simp; try (with_reducible rfl))
          simp only [Act.put, List.setIfInBounds_toArray, List.set_cons_zero, List.set_cons_succ]
          refine wpAnyH_ready (rs := [23]) (by kernel_rfl) (by simp) ?_
          refine AllReadyH.cons (by rw [List.getElem?_toArray]; rfl) (fun K hK => ?_) AllReadyH.nil
          have c5 := cell_of_row _ gi 4 _ 26 _ HK.out.box
          have f5 : World.frozen? _ ⟨gi, 4, none⟩ = false := frozen_of_row _ gi 4 _ 26 HK.out.box
          simp at c5
          clear hHeld
          go_simp
          have HKd := Lib.hid (kr_put HK.out 4 (.slice (some ⟨g6, 0, none⟩) (k + 1) cap6) rfl)
          clear HK
          have HK := HKd
          clear HKd
          refine hK.out _ _ HK.out.l (fun hHeld => ?_)
          clear hK K c5 f5 hHeld
          refine wpAnyH_done (by kernel_rfl) ?_ _
          exact HRT.out _ _ _ _ _ _ _ _ _ _ _ _ _ _ _ _ _ _ _ _ _ _ _ _ _ _ _ HK.out
      · clear hHeld
        go_simp
        have n18 := Lib.hid (row_fresh HK.out.rw)
        have c18 := Lib.hid (one_new vu16 (.int .i64 x17))
        have c8x := Lib.hid (one_alloc c8.out (.cells #[(.int .i64 x17)] 3))
        clear c8
        have c8 := c8x
        clear c8x
        have HKd := Lib.hid (HK.out.alloc (.cells #[(.int .i64 x17)] 3))
        clear HK
        have HK := HKd
        clear HKd
        refine hK.out _ _ HK.out.l (fun hHeld => ?_)
        clear hK K
        generalize (vu16.alloc (.cells #[(.int .i64 x17)] 3)) = vu29 at *
        generalize vu16.heap.size = p18 at *
        refine wpAnyH_ready (rs := [9, 11]) (by kernel_rfl) (by simp) ?_
        refine AllReadyH.cons (by rw [List.getElem?_toArray]; rfl) (fun K hK => ?_) (AllReadyH.cons (by rw [List.getElem?_toArray]; rfl) (fun K hK => ?_) AllReadyH.nil)
        · clear hHeld
          rw [if_pos (by rfl)]
          refine wp_append_lies _ _ _ 23 rfl B 3 i0 (.int .i64 0) 1 8 Try.underlying23 hi hz0 hz1 hz2 rfl (by decide) vW k _ rfl HK.out.rw ⟨p8, 0, none⟩ 1 1 [(.int .i64 x7)] rfl rfl (one_news c8.out) (by simp [Value.oneCell']) (by decide) (by unfold maxLen; omega) (by omega) HK.out.sz _ rfl ?_
          intro g5 cap5 w5 hown5 hgrow5 hl5 hlt5
          have HKd := Lib.hid (HK.out.addW HY7.out hown5 hgrow5 hl5)
          clear HK
          have HK := HKd
          clear HKd c8
          have c18x := Lib.hid (one_kept c18.out hgrow5 n18.out)
          clear c18 n18
          have c18 := c18x
          clear c18x
          clear hown5 hgrow5 hl5 hlt5
          refine hK.out _ _ HK.out.l (fun hHeld => ?_)
          clear hK K
          refine wpAnyH_ready (rs := [11]) (by kernel_rfl) (by simp) ?_
          refine AllReadyH.cons (by rw [List.getElem?_toArray]; rfl) (fun K hK => ?_) AllReadyH.nil
          have c5 : w5.cell? ⟨gi, 4, none⟩ = some vV := cell_of_row _ gi 4 _ 26 _ HK.out.box
          clear hHeld
          go_simp
          refine hK.out _ _ HK.out.l (fun hHeld => ?_)
          clear hK K c5
          refine wpAnyH_take (i := 20) (v := ?vu30) (by rw [List.getElem?_toArray]; rfl) (by kernel_rfl) (by kernel_rfl) (by kernel_rfl) ?ku30 (Or.inl ⟨by rfl, ?yu30⟩) hHeld ?ru30
          case ku30 => exact fun c a w h => hP c a _ _ w h
          case yu30 => (intro wz hSw; clear hSw; go_simp; try (with_reducible rfl))
          simp only [Act.put, List.setIfInBounds_toArray, List.set_cons_zero, List.set_cons_succ]
          refine wpAnyH_ready (rs := [19]) (by kernel_rfl) (by simp) ?_
          refine AllReadyH.cons (by rw [List.getElem?_toArray]; rfl) (fun K hK => ?_) AllReadyH.nil
          clear hHeld
          rw [if_pos (by rfl)]
          refine wp_append_lies _ _ _ 23 rfl B 3 i0 (.int .i64 0) 1 8 Try.underlying23 hi hz0 hz1 hz2 rfl (by decide) vV k _ rfl HK.out.rv ⟨p18, 0, none⟩ 1 1 [(.int .i64 x17)] rfl rfl (one_news c18.out) (by simp [Value.oneCell']) (by decide) (by unfold maxLen; omega) (by omega) HK.out.sz _ rfl ?_
          intro g6 cap6 w6 hown6 hgrow6 hl6 hlt6
          have HKd := Lib.hid (HK.out.addV HY17.out hown6 hgrow6 hl6)
          clear HK
          have HK := HKd
          clear HKd c18
          clear hown6 hgrow6 hl6 hlt6
          refine hK.out _ _ HK.out.l (fun hHeld => ?_)
          clear hK K
          refine wpAnyH_ready (rs := [21]) (by kernel_rfl) (by simp) ?_
          refine AllReadyH.cons (by rw [List.getElem?_toArray]; rfl) (fun K hK => ?_) AllReadyH.nil
          have c5 := cell_of_row _ gi 3 _ 26 _ HK.out.box
          have f5 : World.frozen? _ ⟨gi, 3, none⟩ = false := frozen_of_row _ gi 3 _ 26 HK.out.box
          simp at c5
          clear hHeld
          go_simp
          have HKd := Lib.hid (kr_put HK.out 3 (.slice (some ⟨g5, 0, none⟩) (k + 1) cap5) rfl)
          clear HK
          have HK := HKd
          clear HKd
          refine hK.out _ _ HK.out.l (fun hHeld => ?_)
          clear hK K c5 f5
          refine wpAnyH_take (i := 22) (v := ?vu31) (by rw [List.getElem?_toArray]; rfl) (by kernel_rfl) (by kernel_rfl) (by kernel_rfl) ?ku31 (Or.inl ⟨by rfl, ?yu31⟩) hHeld ?ru31
          case ku31 => exact fun c a w h => hP c a _ _ w h
          case yu31 => (intro wz hSw; clear hSw; go_simp; try (with_reducible rfl))
          simp only [Act.put, List.setIfInBounds_toArray, List.set_cons_zero, List.set_cons_succ]
          refine wpAnyH_ready (rs := [23]) (by kernel_rfl) (by simp) ?_
          refine AllReadyH.cons (by rw [List.getElem?_toArray]; rfl) (fun K hK => ?_) AllReadyH.nil
          have c5 := cell_of_row _ gi 4 _ 26 _ HK.out.box
          have f5 : World.frozen? _ ⟨gi, 4, none⟩ = false := frozen_of_row _ gi 4 _ 26 HK.out.box
          simp at c5
          clear hHeld
          go_simp
          have HKd := Lib.hid (kr_put HK.out 4 (.slice (some ⟨g6, 0, none⟩) (k + 1) cap6) rfl)
          clear HK
          have HK := HKd
          clear HKd
          refine hK.out _ _ HK.out.l (fun hHeld => ?_)
          clear hK K c5 f5 hHeld
          refine wpAnyH_done (by kernel_rfl) ?_ _
          exact HRT.out _ _ _ _ _ _ _ _ _ _ _ _ _ _ _ _ _ _ _ _ _ _ _ _ _ _ _ HK.out
        · have c5 : vu29.cell? ⟨gi, 4, none⟩ = some vV := cell_of_row _ gi 4 _ 26 _ HK.out.box
          clear hHeld
          go_simp
          refine hK.out _ _ HK.out.l (fun hHeld => ?_)
          clear hK K c5
          refine wpAnyH_ready (rs := [9]) (by kernel_rfl) (by simp) ?_
          refine AllReadyH.cons (by rw [List.getElem?_toArray]; rfl) (fun K hK => ?_) AllReadyH.nil
          clear hHeld
          rw [if_pos (by rfl)]
          refine wp_append_lies _ _ _ 23 rfl B 3 i0 (.int .i64 0) 1 8 Try.underlying23 hi hz0 hz1 hz2 rfl (by decide) vW k _ rfl HK.out.rw ⟨p8, 0, none⟩ 1 1 [(.int .i64 x7)] rfl rfl (one_news c8.out) (by simp [Value.oneCell']) (by decide) (by unfold maxLen; omega) (by omega) HK.out.sz _ rfl ?_
          intro g5 cap5 w5 hown5 hgrow5 hl5 hlt5
          have HKd := Lib.hid (HK.out.addW HY7.out hown5 hgrow5 hl5)
          clear HK
          have HK := HKd
          clear HKd c8
          have c18x := Lib.hid (one_kept c18.out hgrow5 n18.out)
          clear c18 n18
          have c18 := c18x
          clear c18x
          clear hown5 hgrow5 hl5 hlt5
          refine hK.out _ _ HK.out.l (fun hHeld => ?_)
          clear hK K
          refine wpAnyH_take (i := 20) (v := ?vu32) (by rw [List.getElem?_toArray]; rfl) (by kernel_rfl) (by kernel_rfl) (by kernel_rfl) ?ku32 (Or.inl ⟨by rfl, ?yu32⟩) hHeld ?ru32
          case ku32 => exact fun c a w h => hP c a _ _ w h
          case yu32 => (intro wz hSw; clear hSw; go_simp; try (with_reducible rfl))
          simp only [Act.put, List.setIfInBounds_toArray, List.set_cons_zero, List.set_cons_succ]
          refine wpAnyH_ready (rs := [19]) (by kernel_rfl) (by simp) ?_
          refine AllReadyH.cons (by rw [List.getElem?_toArray]; rfl) (fun K hK => ?_) AllReadyH.nil
          clear hHeld
          rw [if_pos (by rfl)]
          refine wp_append_lies _ _ _ 23 rfl B 3 i0 (.int .i64 0) 1 8 Try.underlying23 hi hz0 hz1 hz2 rfl (by decide) vV k _ rfl HK.out.rv ⟨p18, 0, none⟩ 1 1 [(.int .i64 x17)] rfl rfl (one_news c18.out) (by simp [Value.oneCell']) (by decide) (by unfold maxLen; omega) (by omega) HK.out.sz _ rfl ?_
          intro g6 cap6 w6 hown6 hgrow6 hl6 hlt6
          have HKd := Lib.hid (HK.out.addV HY17.out hown6 hgrow6 hl6)
          clear HK
          have HK := HKd
          clear HKd c18
          clear hown6 hgrow6 hl6 hlt6
          refine hK.out _ _ HK.out.l (fun hHeld => ?_)
          clear hK K
          refine wpAnyH_ready (rs := [21]) (by kernel_rfl) (by simp) ?_
          refine AllReadyH.cons (by rw [List.getElem?_toArray]; rfl) (fun K hK => ?_) AllReadyH.nil
          have c5 := cell_of_row _ gi 3 _ 26 _ HK.out.box
          have f5 : World.frozen? _ ⟨gi, 3, none⟩ = false := frozen_of_row _ gi 3 _ 26 HK.out.box
          simp at c5
          clear hHeld
          go_simp
          have HKd := Lib.hid (kr_put HK.out 3 (.slice (some ⟨g5, 0, none⟩) (k + 1) cap5) rfl)
          clear HK
          have HK := HKd
          clear HKd
          refine hK.out _ _ HK.out.l (fun hHeld => ?_)
          clear hK K c5 f5
          refine wpAnyH_take (i := 22) (v := ?vu33) (by rw [List.getElem?_toArray]; rfl) (by kernel_rfl) (by kernel_rfl) (by kernel_rfl) ?ku33 (Or.inl ⟨by rfl, ?yu33⟩) hHeld ?ru33
          case ku33 => exact fun c a w h => hP c a _ _ w h
          case yu33 => (intro wz hSw; clear hSw; go_simp; try (with_reducible rfl))
          simp only [Act.put, List.setIfInBounds_toArray, List.set_cons_zero, List.set_cons_succ]
          refine wpAnyH_ready (rs := [23]) (by kernel_rfl) (by simp) ?_
          refine AllReadyH.cons (by rw [List.getElem?_toArray]; rfl) (fun K hK => ?_) AllReadyH.nil
          have c5 := cell_of_row _ gi 4 _ 26 _ HK.out.box
          have f5 : World.frozen? _ ⟨gi, 4, none⟩ = false := frozen_of_row _ gi 4 _ 26 HK.out.box
          simp at c5
          clear hHeld
          go_simp
          have HKd := Lib.hid (kr_put HK.out 4 (.slice (some ⟨g6, 0, none⟩) (k + 1) cap6) rfl)
          clear HK
          have HK := HKd
          clear HKd
          refine hK.out _ _ HK.out.l (fun hHeld => ?_)
          clear hK K c5 f5 hHeld
          refine wpAnyH_done (by kernel_rfl) ?_ _
          exact HRT.out _ _ _ _ _ _ _ _ _ _ _ _ _ _ _ _ _ _ _ _ _ _ _ _ _ _ _ HK.out
    · have c5 : vu1.cell? ⟨gi, 4, none⟩ = some vV := cell_of_row _ gi 4 _ 26 _ HK.out.box
      clear hHeld
      go_simp
      refine hK.out _ _ HK.out.l (fun hHeld => ?_)
      clear hK K c5
      refine wpAnyH_ready (rs := [8, 18]) (by kernel_rfl) (by simp) ?_
      refine AllReadyH.cons (by rw [List.getElem?_toArray]; rfl) (fun K hK => ?_) (AllReadyH.cons (by rw [List.getElem?_toArray]; rfl) (fun K hK => ?_) AllReadyH.nil)
      · clear hHeld
        go_simp
        have c8 := Lib.hid (one_new vu1 (.int .i64 x7))
        have HKd := Lib.hid (HK.out.alloc (.cells #[(.int .i64 x7)] 3))
        clear HK
        have HK := HKd
        clear HKd
        refine hK.out _ _ HK.out.l (fun hHeld => ?_)
        clear hK K
        generalize (vu1.alloc (.cells #[(.int .i64 x7)] 3)) = vu34 at *
        generalize vu1.heap.size = p8 at *
        refine wpAnyH_ready (rs := [9, 18]) (by kernel_rfl) (by simp) ?_
        refine AllReadyH.cons (by rw [List.getElem?_toArray]; rfl) (fun K hK => ?_) (AllReadyH.cons (by rw [List.getElem?_toArray]; rfl) (fun K hK => ?_) AllReadyH.nil)
        · clear hHeld
          rw [if_pos (by rfl)]
          refine wp_append_lies _ _ _ 23 rfl B 3 i0 (.int .i64 0) 1 8 Try.underlying23 hi hz0 hz1 hz2 rfl (by decide) vW k _ rfl HK.out.rw ⟨p8, 0, none⟩ 1 1 [(.int .i64 x7)] rfl rfl (one_news c8.out) (by simp [Value.oneCell']) (by decide) (by unfold maxLen; omega) (by omega) HK.out.sz _ rfl ?_
          intro g5 cap5 w5 hown5 hgrow5 hl5 hlt5
          have HKd := Lib.hid (HK.out.addW HY7.out hown5 hgrow5 hl5)
          clear HK
          have HK := HKd
          clear HKd c8
          clear hown5 hgrow5 hl5 hlt5
          refine hK.out _ _ HK.out.l (fun hHeld => ?_)
          clear hK K
          refine wpAnyH_take (i := 20) (v := ?vu35) (by rw [List.getElem?_toArray]; rfl) (by kernel_rfl) (by kernel_rfl) (by kernel_rfl) ?ku35 (Or.inl ⟨by rfl, ?yu35⟩) hHeld ?ru35
          case ku35 => exact fun c a w h => hP c a _ _ w h
          case yu35 => (intro wz hSw; clear hSw; go_simp; try (with_reducible rfl))
          simp only [Act.put, List.setIfInBounds_toArray, List.set_cons_zero, List.set_cons_succ]
          refine wpAnyH_ready (rs := [18]) (by kernel_rfl) (by simp) ?_
          refine AllReadyH.cons (by rw [List.getElem?_toArray]; rfl) (fun K hK => ?_) AllReadyH.nil
          clear hHeld
          go_simp
          have c18 := Lib.hid (one_new w5 (.int .i64 x17))
          have HKd := Lib.hid (HK.out.alloc (.cells #[(.int .i64 x17)] 3))
          clear HK
          have HK := HKd
          clear HKd
          refine hK.out _ _ HK.out.l (fun hHeld => ?_)
          clear hK K
          generalize (w5.alloc (.cells #[(.int .i64 x17)] 3)) = vu36 at *
          generalize w5.heap.size = p18 at *
          refine wpAnyH_ready (rs := [19]) (by kernel_rfl) (by simp) ?_
          refine AllReadyH.cons (by rw [List.getElem?_toArray]; rfl) (fun K hK => ?_) AllReadyH.nil
          clear hHeld
          rw [if_pos (by rfl)]
          refine wp_append_lies _ _ _ 23 rfl B 3 i0 (.int .i64 0) 1 8 Try.underlying23 hi hz0 hz1 hz2 rfl (by decide) vV k _ rfl HK.out.rv ⟨p18, 0, none⟩ 1 1 [(.int .i64 x17)] rfl rfl (one_news c18.out) (by simp [Value.oneCell']) (by decide) (by unfold maxLen; omega) (by omega) HK.out.sz _ rfl ?_
          intro g6 cap6 w6 hown6 hgrow6 hl6 hlt6
          have HKd := Lib.hid (HK.out.addV HY17.out hown6 hgrow6 hl6)
          clear HK
          have HK := HKd
          clear HKd c18
          clear hown6 hgrow6 hl6 hlt6
          refine hK.out _ _ HK.out.l (fun hHeld => ?_)
          clear hK K
          refine wpAnyH_ready (rs := [21]) (by kernel_rfl) (by simp) ?_
          refine AllReadyH.cons (by rw [List.getElem?_toArray]; rfl) (fun K hK => ?_) AllReadyH.nil
          have c5 := cell_of_row _ gi 3 _ 26 _ HK.out.box
          have f5 : World.frozen? _ ⟨gi, 3, none⟩ = false := frozen_of_row _ gi 3 _ 26 HK.out.box
          simp at c5
          clear hHeld
          go_simp
          have HKd := Lib.hid (kr_put HK.out 3 (.slice (some ⟨g5, 0, none⟩) (k + 1) cap5) rfl)
          clear HK
          have HK := HKd
          clear HKd
          refine hK.out _ _ HK.out.l (fun hHeld => ?_)
          clear hK K c5 f5
          refine wpAnyH_take (i := 22) (v := ?vu37) (by rw [List.getElem?_toArray]; rfl) (by kernel_rfl) (by kernel_rfl) (by kernel_rfl) ?ku37 (Or.inl ⟨by rfl, ?yu37⟩) hHeld ?ru37
          case ku37 => exact fun c a w h => hP c a _ _ w h
          case yu37 => (intro wz hSw; clear hSw; go_simp; try (with_reducible rfl))
          simp only [Act.put, List.setIfInBounds_toArray, List.set_cons_zero, List.set_cons_succ]
          refine wpAnyH_ready (rs := [23]) (by kernel_rfl) (by simp) ?_
          refine AllReadyH.cons (by rw [List.getElem?_toArray]; rfl) (fun K hK => ?_) AllReadyH.nil
          have c5 := cell_of_row _ gi 4 _ 26 _ HK.out.box
          have f5 : World.frozen? _ ⟨gi, 4, none⟩ = false := frozen_of_row _ gi 4 _ 26 HK.out.box
          simp at c5
          clear hHeld
          go_simp
          have HKd := Lib.hid (kr_put HK.out 4 (.slice (some ⟨g6, 0, none⟩) (k + 1) cap6) rfl)
          clear HK
          have HK := HKd
          clear HKd
          refine hK.out _ _ HK.out.l (fun hHeld => ?_)
          clear hK K c5 f5 hHeld
          refine wpAnyH_done (by kernel_rfl) ?_ _
          exact HRT.out _ _ _ _ _ _ _ _ _ _ _ _ _ _ _ _ _ _ _ _ _ _ _ _ _ _ _ HK.out
        · clear hHeld
          go_simp
          have n18 := Lib.hid (row_fresh HK.out.rw)
          have c18 := Lib.hid (one_new vu34 (.int .i64 x17))
          have c8x := Lib.hid (one_alloc c8.out (.cells #[(.int .i64 x17)] 3))
          clear c8
          have c8 := c8x
          clear c8x
          have HKd := Lib.hid (HK.out.alloc (.cells #[(.int .i64 x17)] 3))
          clear HK
          have HK := HKd
          clear HKd
          refine hK.out _ _ HK.out.l (fun hHeld => ?_)
          clear hK K
          generalize (vu34.alloc (.cells #[(.int .i64 x17)] 3)) = vu38 at *
          generalize vu34.heap.size = p18 at *
          refine wpAnyH_ready (rs := [9]) (by kernel_rfl) (by simp) ?_
          refine AllReadyH.cons (by rw [List.getElem?_toArray]; rfl) (fun K hK => ?_) AllReadyH.nil
          clear hHeld
          rw [if_pos (by rfl)]
          refine wp_append_lies _ _ _ 23 rfl B 3 i0 (.int .i64 0) 1 8 Try.underlying23 hi hz0 hz1 hz2 rfl (by decide) vW k _ rfl HK.out.rw ⟨p8, 0, none⟩ 1 1 [(.int .i64 x7)] rfl rfl (one_news c8.out) (by simp [Value.oneCell']) (by decide) (by unfold maxLen; omega) (by omega) HK.out.sz _ rfl ?_
          intro g5 cap5 w5 hown5 hgrow5 hl5 hlt5
          have HKd := Lib.hid (HK.out.addW HY7.out hown5 hgrow5 hl5)
          clear HK
          have HK := HKd
          clear HKd c8
          have c18x := Lib.hid (one_kept c18.out hgrow5 n18.out)
          clear c18 n18
          have c18 := c18x
          clear c18x
          clear hown5 hgrow5 hl5 hlt5
          refine hK.out _ _ HK.out.l (fun hHeld => ?_)
          clear hK K
          refine wpAnyH_take (i := 20) (v := ?vu39) (by rw [List.getElem?_toArray]; rfl) (by kernel_rfl) (by kernel_rfl) (by kernel_rfl) ?ku39 (Or.inl ⟨by rfl, ?yu39⟩) hHeld ?ru39
          case ku39 => exact fun c a w h => hP c a _ _ w h
          case yu39 => (intro wz hSw; clear hSw; go_simp; try (with_reducible rfl))
          simp only [Act.put, List.setIfInBounds_toArray, List.set_cons_zero, List.set_cons_succ]
          refine wpAnyH_ready (rs := [19]) (by kernel_rfl) (by simp) ?_
          refine AllReadyH.cons (by rw [List.getElem?_toArray]; rfl) (fun K hK => ?_) AllReadyH.nil
          clear hHeld
          rw [if_pos (by rfl)]
          refine wp_append_lies _ _ _ 23 rfl B 3 i0 (.int .i64 0) 1 8 Try.underlying23 hi hz0 hz1 hz2 rfl (by decide) vV k _ rfl HK.out.rv ⟨p18, 0, none⟩ 1 1 [(.int .i64 x17)] rfl rfl (one_news c18.out) (by simp [Value.oneCell']) (by decide) (by unfold maxLen; omega) (by omega) HK.out.sz _ rfl ?_
          intro g6 cap6 w6 hown6 hgrow6 hl6 hlt6
          have HKd := Lib.hid (HK.out.addV HY17.out hown6 hgrow6 hl6)
          clear HK
          have HK := HKd
          clear HKd c18
          clear hown6 hgrow6 hl6 hlt6
          refine hK.out _ _ HK.out.l (fun hHeld => ?_)
          clear hK K
          refine wpAnyH_ready (rs := [21]) (by kernel_rfl) (by simp) ?_
          refine AllReadyH.cons (by rw [List.getElem?_toArray]; rfl) (fun K hK => ?_) AllReadyH.nil
          have c5 := cell_of_row _ gi 3 _ 26 _ HK.out.box
          have f5 : World.frozen? _ ⟨gi, 3, none⟩ = false := frozen_of_row _ gi 3 _ 26 HK.out.box
          simp at c5
          clear hHeld
          go_simp
          have HKd := Lib.hid (kr_put HK.out 3 (.slice (some ⟨g5, 0, none⟩) (k + 1) cap5) rfl)
          clear HK
          have HK := HKd
          clear HKd
          refine hK.out _ _ HK.out.l (fun hHeld => ?_)
          clear hK K c5 f5
          refine wpAnyH_take (i := 22) (v := ?vu40) (by rw [List.getElem?_toArray]; rfl) (by kernel_rfl) (by kernel_rfl) (by kernel_rfl) ?ku40 (Or.inl ⟨by rfl, ?yu40⟩) hHeld ?ru40
          case ku40 => exact fun c a w h => hP c a _ _ w h
          case yu40 => (intro wz hSw; clear hSw; go_simp; try (with_reducible rfl))
          simp only [Act.put, List.setIfInBounds_toArray, List.set_cons_zero, List.set_cons_succ]
          refine wpAnyH_ready (rs := [23]) (by kernel_rfl) (by simp) ?_
          refine AllReadyH.cons (by rw [List.getElem?_toArray]; rfl) (fun K hK => ?_) AllReadyH.nil
          have c5 := cell_of_row _ gi 4 _ 26 _ HK.out.box
          have f5 : World.frozen? _ ⟨gi, 4, none⟩ = false := frozen_of_row _ gi 4 _ 26 HK.out.box
          simp at c5
          clear hHeld
          go_simp
          have HKd := Lib.hid (kr_put HK.out 4 (.slice (some ⟨g6, 0, none⟩) (k + 1) cap6) rfl)
          clear HK
          have HK := HKd
          clear HKd
          refine hK.out _ _ HK.out.l (fun hHeld => ?_)
          clear hK K c5 f5 hHeld
          refine wpAnyH_done (by kernel_rfl) ?_ _
          exact HRT.out _ _ _ _ _ _ _ _ _ _ _ _ _ _ _ _ _ _ _ _ _ _ _ _ _ _ _ HK.out
      · clear hHeld
        go_simp
        have n18 := Lib.hid (row_fresh HK.out.rw)
        have c18 := Lib.hid (one_new vu1 (.int .i64 x17))
        have HKd := Lib.hid (HK.out.alloc (.cells #[(.int .i64 x17)] 3))
        clear HK
        have HK := HKd
        clear HKd
        refine hK.out _ _ HK.out.l (fun hHeld => ?_)
        clear hK K
        generalize (vu1.alloc (.cells #[(.int .i64 x17)] 3)) = vu41 at *
        generalize vu1.heap.size = p18 at *
        refine wpAnyH_ready (rs := [8]) (by kernel_rfl) (by simp) ?_
        refine AllReadyH.cons (by rw [List.getElem?_toArray]; rfl) (fun K hK => ?_) AllReadyH.nil
        clear hHeld
        go_simp
        have c8 := Lib.hid (one_new vu41 (.int .i64 x7))
        have c18x := Lib.hid (one_alloc c18.out (.cells #[(.int .i64 x7)] 3))
        clear c18
        have c18 := c18x
        clear c18x
        have HKd := Lib.hid (HK.out.alloc (.cells #[(.int .i64 x7)] 3))
        clear HK
        have HK := HKd
        clear HKd
        refine hK.out _ _ HK.out.l (fun hHeld => ?_)
        clear hK K
        generalize (vu41.alloc (.cells #[(.int .i64 x7)] 3)) = vu42 at *
        generalize vu41.heap.size = p8 at *
        refine wpAnyH_ready (rs := [9]) (by kernel_rfl) (by simp) ?_
        refine AllReadyH.cons (by rw [List.getElem?_toArray]; rfl) (fun K hK => ?_) AllReadyH.nil
        clear hHeld
        rw [if_pos (by rfl)]
        refine wp_append_lies _ _ _ 23 rfl B 3 i0 (.int .i64 0) 1 8 Try.underlying23 hi hz0 hz1 hz2 rfl (by decide) vW k _ rfl HK.out.rw ⟨p8, 0, none⟩ 1 1 [(.int .i64 x7)] rfl rfl (one_news c8.out) (by simp [Value.oneCell']) (by decide) (by unfold maxLen; omega) (by omega) HK.out.sz _ rfl ?_
        intro g5 cap5 w5 hown5 hgrow5 hl5 hlt5
        have HKd := Lib.hid (HK.out.addW HY7.out hown5 hgrow5 hl5)
        clear HK
        have HK := HKd
        clear HKd c8
        have c18x := Lib.hid (one_kept c18.out hgrow5 n18.out)
        clear c18 n18
        have c18 := c18x
        clear c18x
        clear hown5 hgrow5 hl5 hlt5
        refine hK.out _ _ HK.out.l (fun hHeld => ?_)
        clear hK K
        refine wpAnyH_take (i := 20) (v := ?vu43) (by rw [List.getElem?_toArray]; rfl) (by kernel_rfl) (by kernel_rfl) (by kernel_rfl) ?ku43 (Or.inl ⟨by rfl, ?yu43⟩) hHeld ?ru43
        case ku43 => exact fun c a w h => hP c a _ _ w h
        case yu43 => (intro wz hSw; clear hSw; go_simp; try (with_reducible rfl))
        simp only [Act.put, List.setIfInBounds_toArray, List.set_cons_zero, List.set_cons_succ]
        refine wpAnyH_ready (rs := [19]) (by kernel_rfl) (by simp) ?_
        refine AllReadyH.cons (by rw [List.getElem?_toArray]; rfl) (fun K hK => ?_) AllReadyH.nil
        clear hHeld
        rw [if_pos (by rfl)]
        refine wp_append_lies _ _ _ 23 rfl B 3 i0 (.int .i64 0) 1 8 Try.underlying23 hi hz0 hz1 hz2 rfl (by decide) vV k _ rfl HK.out.rv ⟨p18, 0, none⟩ 1 1 [(.int .i64 x17)] rfl rfl (one_news c18.out) (by simp [Value.oneCell']) (by decide) (by unfold maxLen; omega) (by omega) HK.out.sz _ rfl ?_
        intro g6 cap6 w6 hown6 hgrow6 hl6 hlt6
        have HKd := Lib.hid (HK.out.addV HY17.out hown6 hgrow6 hl6)
        clear HK
        have HK := HKd
        clear HKd c18
        clear hown6 hgrow6 hl6 hlt6
        refine hK.out _ _ HK.out.l (fun hHeld => ?_)
        clear hK K
        refine wpAnyH_ready (rs := [21]) (by kernel_rfl) (by simp) ?_
        refine AllReadyH.cons (by rw [List.getElem?_toArray]; rfl) (fun K hK => ?_) AllReadyH.nil
        have c5 := cell_of_row _ gi 3 _ 26 _ HK.out.box
        have f5 : World.frozen? _ ⟨gi, 3, none⟩ = false := frozen_of_row _ gi 3 _ 26 HK.out.box
        simp at c5
        clear hHeld
        go_simp
        have HKd := Lib.hid (kr_put HK.out 3 (.slice (some ⟨g5, 0, none⟩) (k + 1) cap5) rfl)
        clear HK
        have HK := HKd
        clear HKd
        refine hK.out _ _ HK.out.l (fun hHeld => ?_)
        clear hK K c5 f5
        refine wpAnyH_take (i := 22) (v := ?vu44) (by rw [List.getElem?_toArray]; rfl) (by kernel_rfl) (by kernel_rfl) (by kernel_rfl) ?ku44 (Or.inl ⟨by rfl, ?yu44⟩) hHeld ?ru44
        case ku44 => exact fun c a w h => hP c a _ _ w h
        case yu44 => (intro wz hSw; clear hSw; go_simp; try (with_reducible rfl))
        simp only [Act.put, List.setIfInBounds_toArray, List.set_cons_zero, List.set_cons_succ]
        refine wpAnyH_ready (rs := [23]) (by kernel_rfl) (by simp) ?_
        refine AllReadyH.cons (by rw [List.getElem?_toArray]; rfl) (fun K hK => ?_) AllReadyH.nil
        have c5 := cell_of_row _ gi 4 _ 26 _ HK.out.box
        have f5 : World.frozen? _ ⟨gi, 4, none⟩ = false := frozen_of_row _ gi 4 _ 26 HK.out.box
        simp at c5
        clear hHeld
        go_simp
        have HKd := Lib.hid (kr_put HK.out 4 (.slice (some ⟨g6, 0, none⟩) (k + 1) cap6) rfl)
        clear HK
        have HK := HKd
        clear HKd
        refine hK.out _ _ HK.out.l (fun hHeld => ?_)
        clear hK K c5 f5 hHeld
        refine wpAnyH_done (by kernel_rfl) ?_ _
        exact HRT.out _ _ _ _ _ _ _ _ _ _ _ _ _ _ _ _ _ _ _ _ _ _ _ _ _ _ _ HK.out
    · clear hHeld
      go_simp
      have n18 := Lib.hid (row_fresh HK.out.rw)
      have c18 := Lib.hid (one_new vu1 (.int .i64 x17))
      have HKd := Lib.hid (HK.out.alloc (.cells #[(.int .i64 x17)] 3))
      clear HK
      have HK := HKd
      clear HKd
      refine hK.out _ _ HK.out.l (fun hHeld => ?_)
      clear hK K
      generalize (vu1.alloc (.cells #[(.int .i64 x17)] 3)) = vu45 at *
      generalize vu1.heap.size = p18 at *
      refine wpAnyH_ready (rs := [8, 11]) (by kernel_rfl) (by simp) ?_
      refine AllReadyH.cons (by rw [List.getElem?_toArray]; rfl) (fun K hK => ?_) (AllReadyH.cons (by rw [List.getElem?_toArray]; rfl) (fun K hK => ?_) AllReadyH.nil)
      · clear hHeld
        go_simp
        have c8 := Lib.hid (one_new vu45 (.int .i64 x7))
        have c18x := Lib.hid (one_alloc c18.out (.cells #[(.int .i64 x7)] 3))
        clear c18
        have c18 := c18x
        clear c18x
        have HKd := Lib.hid (HK.out.alloc (.cells #[(.int .i64 x7)] 3))
        clear HK
        have HK := HKd
        clear HKd
        refine hK.out _ _ HK.out.l (fun hHeld => ?_)
        clear hK K
        generalize (vu45.alloc (.cells #[(.int .i64 x7)] 3)) = vu46 at *
        generalize vu45.heap.size = p8 at *
        refine wpAnyH_ready (rs := [9, 11]) (by kernel_rfl) (by simp) ?_
        refine AllReadyH.cons (by rw [List.getElem?_toArray]; rfl) (fun K hK => ?_) (AllReadyH.cons (by rw [List.getElem?_toArray]; rfl) (fun K hK => ?_) AllReadyH.nil)
        · clear hHeld
          rw [if_pos (by rfl)]
          refine wp_append_lies _ _ _ 23 rfl B 3 i0 (.int .i64 0) 1 8 Try.underlying23 hi hz0 hz1 hz2 rfl (by decide) vW k _ rfl HK.out.rw ⟨p8, 0, none⟩ 1 1 [(.int .i64 x7)] rfl rfl (one_news c8.out) (by simp [Value.oneCell']) (by decide) (by unfold maxLen; omega) (by omega) HK.out.sz _ rfl ?_
          intro g5 cap5 w5 hown5 hgrow5 hl5 hlt5
          have HKd := Lib.hid (HK.out.addW HY7.out hown5 hgrow5 hl5)
          clear HK
          have HK := HKd
          clear HKd c8
          have c18x := Lib.hid (one_kept c18.out hgrow5 n18.out)
          clear c18 n18
          have c18 := c18x
          clear c18x
          clear hown5 hgrow5 hl5 hlt5
          refine hK.out _ _ HK.out.l (fun hHeld => ?_)
          clear hK K
          refine wpAnyH_ready (rs := [11]) (by kernel_rfl) (by simp) ?_
          refine AllReadyH.cons (by rw [List.getElem?_toArray]; rfl) (fun K hK => ?_) AllReadyH.nil
          have c5 : w5.cell? ⟨gi, 4, none⟩ = some vV := cell_of_row _ gi 4 _ 26 _ HK.out.box
          clear hHeld
          go_simp
          refine hK.out _ _ HK.out.l (fun hHeld => ?_)
          clear hK K c5
          refine wpAnyH_take (i := 20) (v := ?vu47) (by rw [List.getElem?_toArray]; rfl) (by kernel_rfl) (by kernel_rfl) (by kernel_rfl) ?ku47 (Or.inl ⟨by rfl, ?yu47⟩) hHeld ?ru47
          case ku47 => exact fun c a w h => hP c a _ _ w h
          case yu47 => (intro wz hSw; clear hSw; go_simp; try (with_reducible rfl))
          simp only [Act.put, List.setIfInBounds_toArray, List.set_cons_zero, List.set_cons_succ]
          refine wpAnyH_ready (rs := [19]) (by kernel_rfl) (by simp) ?_
          refine AllReadyH.cons (by rw [List.getElem?_toArray]; rfl) (fun K hK => ?_) AllReadyH.nil
          clear hHeld
          rw [if_pos (by rfl)]
          refine wp_append_lies _ _ _ 23 rfl B 3 i0 (.int .i64 0) 1 8 Try.underlying23 hi hz0 hz1 hz2 rfl (by decide) vV k _ rfl HK.out.rv ⟨p18, 0, none⟩ 1 1 [(.int .i64 x17)] rfl rfl (one_news c18.out) (by simp [Value.oneCell']) (by decide) (by unfold maxLen; omega) (by omega) HK.out.sz _ rfl ?_
          intro g6 cap6 w6 hown6 hgrow6 hl6 hlt6
          have HKd := Lib.hid (HK.out.addV HY17.out hown6 hgrow6 hl6)
          clear HK
          have HK := HKd
          clear HKd c18
          clear hown6 hgrow6 hl6 hlt6
          refine hK.out _ _ HK.out.l (fun hHeld => ?_)
          clear hK K
          refine wpAnyH_ready (rs := [21]) (by kernel_rfl) (by simp) ?_
          refine AllReadyH.cons (by rw [List.getElem?_toArray]; rfl) (fun K hK => ?_) AllReadyH.nil
          have c5 := cell_of_row _ gi 3 _ 26 _ HK.out.box
          have f5 : World.frozen? _ ⟨gi, 3, none⟩ = false := frozen_of_row _ gi 3 _ 26 HK.out.box
          simp at c5
          clear hHeld
          go_simp
          have HKd := Lib.hid (kr_put HK.out 3 (.slice (some ⟨g5, 0, none⟩) (k + 1) cap5) rfl)
          clear HK
          have HK := HKd
          clear HKd
          refine hK.out _ _ HK.out.l (fun hHeld => ?_)
          clear hK K c5 f5
          refine wpAnyH_take (i := 22) (v := ?vu48) (by rw [List.getElem?_toArray]; rfl) (by kernel_rfl) (by kernel_rfl) (by kernel_rfl) ?ku48 (Or.inl ⟨by rfl, ?yu48⟩) hHeld ?ru48
          case ku48 => exact fun c a w h => hP c a _ _ w h
          case yu48 => (intro wz hSw; clear hSw; go_simp; try (with_reducible rfl))
          simp only [Act.put, List.setIfInBounds_toArray, List.set_cons_zero, List.set_cons_succ]
          refine wpAnyH_ready (rs := [23]) (by kernel_rfl) (by simp) ?_
          refine AllReadyH.cons (by rw [List.getElem?_toArray]; rfl) (fun K hK => ?_) AllReadyH.nil
          have c5 := cell_of_row _ gi 4 _ 26 _ HK.out.box
          have f5 : World.frozen? _ ⟨gi, 4, none⟩ = false := frozen_of_row _ gi 4 _ 26 HK.out.box
          simp at c5
          clear hHeld
          go_simp
          have HKd := Lib.hid (kr_put HK.out 4 (.slice (some ⟨g6, 0, none⟩) (k + 1) cap6) rfl)
          clear HK
          have HK := HKd
          clear HKd
          refine hK.out _ _ HK.out.l (fun hHeld => ?_)
          clear hK K c5 f5 hHeld
          refine wpAnyH_done (by kernel_rfl) ?_ _
          exact HRT.out _ _ _ _ _ _ _ _ _ _ _ _ _ _ _ _ _ _ _ _ _ _ _ _ _ _ _ HK.out
        · have c5 : vu46.cell? ⟨gi, 4, none⟩ = some vV := cell_of_row _ gi 4 _ 26 _ HK.out.box
          clear hHeld
          go_simp
          refine hK.out _ _ HK.out.l (fun hHeld => ?_)
          clear hK K c5
          refine wpAnyH_ready (rs := [9]) (by kernel_rfl) (by simp) ?_
          refine AllReadyH.cons (by rw [List.getElem?_toArray]; rfl) (fun K hK => ?_) AllReadyH.nil
          clear hHeld
          rw [if_pos (by rfl)]
          refine wp_append_lies _ _ _ 23 rfl B 3 i0 (.int .i64 0) 1 8 Try.underlying23 hi hz0 hz1 hz2 rfl (by decide) vW k _ rfl HK.out.rw ⟨p8, 0, none⟩ 1 1 [(.int .i64 x7)] rfl rfl (one_news c8.out) (by simp [Value.oneCell']) (by decide) (by unfold maxLen; omega) (by omega) HK.out.sz _ rfl ?_
          intro g5 cap5 w5 hown5 hgrow5 hl5 hlt5
          have HKd := Lib.hid (HK.out.addW HY7.out hown5 hgrow5 hl5)
          clear HK
          have HK := HKd
          clear HKd c8
          have c18x := Lib.hid (one_kept c18.out hgrow5 n18.out)
          clear c18 n18
          have c18 := c18x
          clear c18x
          clear hown5 hgrow5 hl5 hlt5
          refine hK.out _ _ HK.out.l (fun hHeld => ?_)
          clear hK K
          refine wpAnyH_take (i := 20) (v := ?vu49) (by rw [List.getElem?_toArray]; rfl) (by kernel_rfl) (by kernel_rfl) (by kernel_rfl) ?ku49 (Or.inl ⟨by rfl, ?yu49⟩) hHeld ?ru49
          case ku49 => exact fun c a w h => hP c a _ _ w h
          case yu49 => (intro wz hSw; clear hSw; go_simp; try (with_reducible rfl))
          simp only [Act.put, List.setIfInBounds_toArray, List.set_cons_zero, List.set_cons_succ]
          refine wpAnyH_ready (rs := [19]) (by kernel_rfl) (by simp) ?_
          refine AllReadyH.cons (by rw [List.getElem?_toArray]; rfl) (fun K hK => ?_) AllReadyH.nil
          clear hHeld
          rw [if_pos (by rfl)]
          refine wp_append_lies _ _ _ 23 rfl B 3 i0 (.int .i64 0) 1 8 Try.underlying23 hi hz0 hz1 hz2 rfl (by decide) vV k _ rfl HK.out.rv ⟨p18, 0, none⟩ 1 1 [(.int .i64 x17)] rfl rfl (one_news c18.out) (by simp [Value.oneCell']) (by decide) (by unfold maxLen; omega) (by omega) HK.out.sz _ rfl ?_
          intro g6 cap6 w6 hown6 hgrow6 hl6 hlt6
          have HKd := Lib.hid (HK.out.addV HY17.out hown6 hgrow6 hl6)
          clear HK
          have HK := HKd
          clear HKd c18
          clear hown6 hgrow6 hl6 hlt6
          refine hK.out _ _ HK.out.l (fun hHeld => ?_)
          clear hK K
          refine wpAnyH_ready (rs := [21]) (by kernel_rfl) (by simp) ?_
          refine AllReadyH.cons (by rw [List.getElem?_toArray]; rfl) (fun K hK => ?_) AllReadyH.nil
          have c5 := cell_of_row _ gi 3 _ 26 _ HK.out.box
          have f5 : World.frozen? _ ⟨gi, 3, none⟩ = false := frozen_of_row _ gi 3 _ 26 HK.out.box
          simp at c5
          clear hHeld
          go_simp
          have HKd := Lib.hid (kr_put HK.out 3 (.slice (some ⟨g5, 0, none⟩) (k + 1) cap5) rfl)
          clear HK
          have HK := HKd
          clear HKd
          refine hK.out _ _ HK.out.l (fun hHeld => ?_)
          clear hK K c5 f5
          refine wpAnyH_take (i := 22) (v := ?vu50) (by rw [List.getElem?_toArray]; rfl) (by kernel_rfl) (by kernel_rfl) (by kernel_rfl) ?ku50 (Or.inl ⟨by rfl, ?yu50⟩) hHeld ?ru50
          case ku50 => exact fun c a w h => hP c a _ _ w h
          case yu50 => (intro wz hSw; clear hSw; go_simp; try (with_reducible rfl))
          simp only [Act.put, List.setIfInBounds_toArray, List.set_cons_zero, List.set_cons_succ]
          refine wpAnyH_ready (rs := [23]) (by kernel_rfl) (by simp) ?_
          refine AllReadyH.cons (by rw [List.getElem?_toArray]; rfl) (fun K hK => ?_) AllReadyH.nil
          have c5 := cell_of_row _ gi 4 _ 26 _ HK.out.box
          have f5 : World.frozen? _ ⟨gi, 4, none⟩ = false := frozen_of_row _ gi 4 _ 26 HK.out.box
          simp at c5
          clear hHeld
          go_simp
          have HKd := Lib.hid (kr_put HK.out 4 (.slice (some ⟨g6, 0, none⟩) (k + 1) cap6) rfl)
          clear HK
          have HK := HKd
          clear HKd
          refine hK.out _ _ HK.out.l (fun hHeld => ?_)
          clear hK K c5 f5 hHeld
          refine wpAnyH_done (by kernel_rfl) ?_ _
          exact HRT.out _ _ _ _ _ _ _ _ _ _ _ _ _ _ _ _ _ _ _ _ _ _ _ _ _ _ _ HK.out
      · have c5 : vu45.cell? ⟨gi, 4, none⟩ = some vV := cell_of_row _ gi 4 _ 26 _ HK.out.box
        clear hHeld
        go_simp
        refine hK.out _ _ HK.out.l (fun hHeld => ?_)
        clear hK K c5
        refine wpAnyH_ready (rs := [8]) (by kernel_rfl) (by simp) ?_
        refine AllReadyH.cons (by rw [List.getElem?_toArray]; rfl) (fun K hK => ?_) AllReadyH.nil
        clear hHeld
        go_simp
        have c8 := Lib.hid (one_new vu45 (.int .i64 x7))
        have c18x := Lib.hid (one_alloc c18.out (.cells #[(.int .i64 x7)] 3))
        clear c18
        have c18 := c18x
        clear c18x
        have HKd := Lib.hid (HK.out.alloc (.cells #[(.int .i64 x7)] 3))
        clear HK
        have HK := HKd
        clear HKd
        refine hK.out _ _ HK.out.l (fun hHeld => ?_)
        clear hK K
        generalize (vu45.alloc (.cells #[(.int .i64 x7)] 3)) = vu51 at *
        generalize vu45.heap.size = p8 at *
        refine wpAnyH_ready (rs := [9]) (by kernel_rfl) (by simp) ?_
        refine AllReadyH.cons (by rw [List.getElem?_toArray]; rfl) (fun K hK => ?_) AllReadyH.nil
        clear hHeld
        rw [if_pos (by rfl)]
        refine wp_append_lies _ _ _ 23 rfl B 3 i0 (.int .i64 0) 1 8 Try.underlying23 hi hz0 hz1 hz2 rfl (by decide) vW k _ rfl HK.out.rw ⟨p8, 0, none⟩ 1 1 [(.int .i64 x7)] rfl rfl (one_news c8.out) (by simp [Value.oneCell']) (by decide) (by unfold maxLen; omega) (by omega) HK.out.sz _ rfl ?_
        intro g5 cap5 w5 hown5 hgrow5 hl5 hlt5
        have HKd := Lib.hid (HK.out.addW HY7.out hown5 hgrow5 hl5)
        clear HK
        have HK := HKd
        clear HKd c8
        have c18x := Lib.hid (one_kept c18.out hgrow5 n18.out)
        clear c18 n18
        have c18 := c18x
        clear c18x
        clear hown5 hgrow5 hl5 hlt5
        refine hK.out _ _ HK.out.l (fun hHeld => ?_)
        clear hK K
        refine wpAnyH_take (i := 20) (v := ?vu52) (by rw [List.getElem?_toArray]; rfl) (by kernel_rfl) (by kernel_rfl) (by kernel_rfl) ?ku52 (Or.inl ⟨by rfl, ?yu52⟩) hHeld ?ru52
        case ku52 => exact fun c a w h => hP c a _ _ w h
        case yu52 => (intro wz hSw; clear hSw; go_simp; try (with_reducible rfl))
        simp only [Act.put, List.setIfInBounds_toArray, List.set_cons_zero, List.set_cons_succ]
        refine wpAnyH_ready (rs := [19]) (by kernel_rfl) (by simp) ?_
        refine AllReadyH.cons (by rw [List.getElem?_toArray]; rfl) (fun K hK => ?_) AllReadyH.nil
        clear hHeld
        rw [if_pos (by rfl)]
        refine wp_append_lies _ _ _ 23 rfl B 3 i0 (.int .i64 0) 1 8 Try.underlying23 hi hz0 hz1 hz2 rfl (by decide) vV k _ rfl HK.out.rv ⟨p18, 0, none⟩ 1 1 [(.int .i64 x17)] rfl rfl (one_news c18.out) (by simp [Value.oneCell']) (by decide) (by unfold maxLen; omega) (by omega) HK.out.sz _ rfl ?_
        intro g6 cap6 w6 hown6 hgrow6 hl6 hlt6
        have HKd := Lib.hid (HK.out.addV HY17.out hown6 hgrow6 hl6)
        clear HK
        have HK := HKd
        clear HKd c18
        clear hown6 hgrow6 hl6 hlt6
        refine hK.out _ _ HK.out.l (fun hHeld => ?_)
        clear hK K
        refine wpAnyH_ready (rs := [21]) (by kernel_rfl) (by simp) ?_
        refine AllReadyH.cons (by rw [List.getElem?_toArray]; rfl) (fun K hK => ?_) AllReadyH.nil
        have c5 := cell_of_row _ gi 3 _ 26 _ HK.out.box
        have f5 : World.frozen? _ ⟨gi, 3, none⟩ = false := frozen_of_row _ gi 3 _ 26 HK.out.box
        simp at c5
        clear hHeld
        go_simp
        have HKd := Lib.hid (kr_put HK.out 3 (.slice (some ⟨g5, 0, none⟩) (k + 1) cap5) rfl)
        clear HK
        have HK := HKd
        clear HKd
        refine hK.out _ _ HK.out.l (fun hHeld => ?_)
        clear hK K c5 f5
        refine wpAnyH_take (i := 22) (v := ?vu53) (by rw [List.getElem?_toArray]; rfl) (by kernel_rfl) (by kernel_rfl) (by kernel_rfl) ?ku53 (Or.inl ⟨by rfl, ?yu53⟩) hHeld ?ru53
        case ku53 => exact fun c a w h => hP c a _ _ w h
        case yu53 => (intro wz hSw; clear hSw; go_simp; try (with_reducible rfl))
        simp only [Act.put, List.setIfInBounds_toArray, List.set_cons_zero, List.set_cons_succ]
        refine wpAnyH_ready (rs := [23]) (by kernel_rfl) (by simp) ?_
        refine AllReadyH.cons (by rw [List.getElem?_toArray]; rfl) (fun K hK => ?_) AllReadyH.nil
        have c5 := cell_of_row _ gi 4 _ 26 _ HK.out.box
        have f5 : World.frozen? _ ⟨gi, 4, none⟩ = false := frozen_of_row _ gi 4 _ 26 HK.out.box
        simp at c5
        clear hHeld
        go_simp
        have HKd := Lib.hid (kr_put HK.out 4 (.slice (some ⟨g6, 0, none⟩) (k + 1) cap6) rfl)
        clear HK
        have HK := HKd
        clear HKd
        refine hK.out _ _ HK.out.l (fun hHeld => ?_)
        clear hK K c5 f5 hHeld
        refine wpAnyH_done (by kernel_rfl) ?_ _
        exact HRT.out _ _ _ _ _ _ _ _ _ _ _ _ _ _ _ _ _ _ _ _ _ _ _ _ _ _ _ HK.out
  · clear hHeld
    go_simp
    have c8 := Lib.hid (one_new vu1 (.int .i64 x7))
    have HKd := Lib.hid (HK.out.alloc (.cells #[(.int .i64 x7)] 3))
    clear HK
    have HK := HKd
    clear HKd
    refine hK.out _ _ HK.out.l (fun hHeld => ?_)
    clear hK K
    generalize (vu1.alloc (.cells #[(.int .i64 x7)] 3)) = vu54 at *
    generalize vu1.heap.size = p8 at *
    refine wpAnyH_ready (rs := [1, 11, 18]) (by kernel_rfl) (by simp) ?_
    refine AllReadyH.cons (by rw [List.getElem?_toArray]; rfl) (fun K hK => ?_) (AllReadyH.cons (by rw [List.getElem?_toArray]; rfl) (fun K hK => ?_) (AllReadyH.cons (by rw [List.getElem?_toArray]; rfl) (fun K hK => ?_) AllReadyH.nil))
    · have c5 : vu54.cell? ⟨gi, 3, none⟩ = some vW := cell_of_row _ gi 3 _ 26 _ HK.out.box
      clear hHeld
      go_simp
      refine hK.out _ _ HK.out.l (fun hHeld => ?_)
      clear hK K c5
      refine wpAnyH_ready (rs := [9, 11, 18]) (by kernel_rfl) (by simp) ?_
      refine AllReadyH.cons (by rw [List.getElem?_toArray]; rfl) (fun K hK => ?_) (AllReadyH.cons (by rw [List.getElem?_toArray]; rfl) (fun K hK => ?_) (AllReadyH.cons (by rw [List.getElem?_toArray]; rfl) (fun K hK => ?_) AllReadyH.nil))
      · clear hHeld
        rw [if_pos (by rfl)]
        refine wp_append_lies _ _ _ 23 rfl B 3 i0 (.int .i64 0) 1 8 Try.underlying23 hi hz0 hz1 hz2 rfl (by decide) vW k _ rfl HK.out.rw ⟨p8, 0, none⟩ 1 1 [(.int .i64 x7)] rfl rfl (one_news c8.out) (by simp [Value.oneCell']) (by decide) (by unfold maxLen; omega) (by omega) HK.out.sz _ rfl ?_
        intro g5 cap5 w5 hown5 hgrow5 hl5 hlt5
        have HKd := Lib.hid (HK.out.addW HY7.out hown5 hgrow5 hl5)
        clear HK
        have HK := HKd
        clear HKd c8
        clear hown5 hgrow5 hl5 hlt5
        refine hK.out _ _ HK.out.l (fun hHeld => ?_)
        clear hK K
        refine wpAnyH_ready (rs := [11, 18]) (by kernel_rfl) (by simp) ?_
        refine AllReadyH.cons (by rw [List.getElem?_toArray]; rfl) (fun K hK => ?_) (AllReadyH.cons (by rw [List.getElem?_toArray]; rfl) (fun K hK => ?_) AllReadyH.nil)
        · have c5 : w5.cell? ⟨gi, 4, none⟩ = some vV := cell_of_row _ gi 4 _ 26 _ HK.out.box
          clear hHeld
          go_simp
          refine hK.out _ _ HK.out.l (fun hHeld => ?_)
          clear hK K c5
          refine wpAnyH_take (i := 20) (v := ?vu55) (by rw [List.getElem?_toArray]; rfl) (by kernel_rfl) (by kernel_rfl) (by kernel_rfl) ?ku55 (Or.inl ⟨by rfl, ?yu55⟩) hHeld ?ru55
          case ku55 => exact fun c a w h => hP c a _ _ w h
          case yu55 => (intro wz hSw; clear hSw; go_simp; try (with_reducible rfl))
          simp only [Act.put, List.setIfInBounds_toArray, List.set_cons_zero, List.set_cons_succ]
          refine wpAnyH_ready (rs := [18]) (by kernel_rfl) (by simp) ?_
          refine AllReadyH.cons (by rw [List.getElem?_toArray]; rfl) (fun K hK => ?_) AllReadyH.nil
          clear hHeld
          go_simp
          have c18 := Lib.hid (one_new w5 (.int .i64 x17))
          have HKd := Lib.hid (HK.out.alloc (.cells #[(.int .i64 x17)] 3))
          clear HK
          have HK := HKd
          clear HKd
          refine hK.out _ _ HK.out.l (fun hHeld => ?_)
          clear hK K
          generalize (w5.alloc (.cells #[(.int .i64 x17)] 3)) = vu56 at *
          generalize w5.heap.size = p18 at *
          refine wpAnyH_ready (rs := [19]) (by kernel_rfl) (by simp) ?_
          refine AllReadyH.cons (by rw [List.getElem?_toArray]; rfl) (fun K hK => ?_) AllReadyH.nil
          clear hHeld
          rw [if_pos (by rfl)]
          refine wp_append_lies _ _ _ 23 rfl B 3 i0 (.int .i64 0) 1 8 Try.underlying23 hi hz0 hz1 hz2 rfl (by decide) vV k _ rfl HK.out.rv ⟨p18, 0, none⟩ 1 1 [(.int .i64 x17)] rfl rfl (one_news c18.out) (by simp [Value.oneCell']) (by decide) (by unfold maxLen; omega) (by omega) HK.out.sz _ rfl ?_
          intro g6 cap6 w6 hown6 hgrow6 hl6 hlt6
          have HKd := Lib.hid (HK.out.addV HY17.out hown6 hgrow6 hl6)
          clear HK
          have HK := HKd
          clear HKd c18
          clear hown6 hgrow6 hl6 hlt6
          refine hK.out _ _ HK.out.l (fun hHeld => ?_)
          clear hK K
          refine wpAnyH_ready (rs := [21]) (by kernel_rfl) (by simp) ?_
          refine AllReadyH.cons (by rw [List.getElem?_toArray]; rfl) (fun K hK => ?_) AllReadyH.nil
          have c5 := cell_of_row _ gi 3 _ 26 _ HK.out.box
          have f5 : World.frozen? _ ⟨gi, 3, none⟩ = false := frozen_of_row _ gi 3 _ 26 HK.out.box
          simp at c5
          clear hHeld
          go_simp
          have HKd := Lib.hid (kr_put HK.out 3 (.slice (some ⟨g5, 0, none⟩) (k + 1) cap5) rfl)
          clear HK
          have HK := HKd
          clear HKd
          refine hK.out _ _ HK.out.l (fun hHeld => ?_)
          clear hK K c5 f5
          refine wpAnyH_take (i := 22) (v := ?vu57) (by rw [List.getElem?_toArray]; rfl) (by kernel_rfl) (by kernel_rfl) (by kernel_rfl) ?ku57 (Or.inl ⟨by rfl, ?yu57⟩) hHeld ?ru57
          case ku57 => exact fun c a w h => hP c a _ _ w h
          case yu57 => (intro wz hSw; clear hSw; go_simp; try (with_reducible rfl))
          simp only [Act.put, List.setIfInBounds_toArray, List.set_cons_zero, List.set_cons_succ]
          refine wpAnyH_ready (rs := [23]) (by kernel_rfl) (by simp) ?_
          refine AllReadyH.cons (by rw [List.getElem?_toArray]; rfl) (fun K hK => ?_) AllReadyH.nil
          have c5 := cell_of_row _ gi 4 _ 26 _ HK.out.box
          have f5 : World.frozen? _ ⟨gi, 4, none⟩ = false := frozen_of_row _ gi 4 _ 26 HK.out.box
          simp at c5
          clear hHeld
          go_simp
          have HKd := Lib.hid (kr_put HK.out 4 (.slice (some ⟨g6, 0, none⟩) (k + 1) cap6) rfl)
          clear HK
          have HK := HKd
          clear HKd
          refine hK.out _ _ HK.out.l (fun hHeld => ?_)
          clear hK K c5 f5 hHeld
          refine wpAnyH_done (by kernel_rfl) ?_ _
          exact HRT.out _ _ _ _ _ _ _ _ _ _ _ _ _ _ _ _ _ _ _ _ _ _ _ _ _ _ _ HK.out
        · clear hHeld
          go_simp
          have c18 := Lib.hid (one_new w5 (.int .i64 x17))
          have HKd := Lib.hid (HK.out.alloc (.cells #[(.int .i64 x17)] 3))
          clear HK
          have HK := HKd
          clear HKd
          refine hK.out _ _ HK.out.l (fun hHeld => ?_)
          clear hK K
          generalize (w5.alloc (.cells #[(.int .i64 x17)] 3)) = vu58 at *
          generalize w5.heap.size = p18 at *
          refine wpAnyH_ready (rs := [11]) (by kernel_rfl) (by simp) ?_
          refine AllReadyH.cons (by rw [List.getElem?_toArray]; rfl) (fun K hK => ?_) AllReadyH.nil
          have c5 : vu58.cell? ⟨gi, 4, none⟩ = some vV := cell_of_row _ gi 4 _ 26 _ HK.out.box
          clear hHeld
          go_simp
          refine hK.out _ _ HK.out.l (fun hHeld => ?_)
          clear hK K c5
          refine wpAnyH_take (i := 20) (v := ?vu59) (by rw [List.getElem?_toArray]; rfl) (by kernel_rfl) (by kernel_rfl) (by kernel_rfl) ?ku59 (Or.inl ⟨by rfl, ?yu59⟩) hHeld ?ru59
          case ku59 => exact fun c a w h => hP c a _ _ w h
          case yu59 => (intro wz hSw; clear hSw; go_simp; try (with_reducible rfl))
          simp only [Act.put, List.setIfInBounds_toArray, List.set_cons_zero, List.set_cons_succ]
          refine wpAnyH_ready (rs := [19]) (by kernel_rfl) (by simp) ?_
          refine AllReadyH.cons (by rw [List.getElem?_toArray]; rfl) (fun K hK => ?_) AllReadyH.nil
          clear hHeld
          rw [if_pos (by rfl)]
          refine wp_append_lies _ _ _ 23 rfl B 3 i0 (.int .i64 0) 1 8 Try.underlying23 hi hz0 hz1 hz2 rfl (by decide) vV k _ rfl HK.out.rv ⟨p18, 0, none⟩ 1 1 [(.int .i64 x17)] rfl rfl (one_news c18.out) (by simp [Value.oneCell']) (by decide) (by unfold maxLen; omega) (by omega) HK.out.sz _ rfl ?_
          intro g6 cap6 w6 hown6 hgrow6 hl6 hlt6
          have HKd := Lib.hid (HK.out.addV HY17.out hown6 hgrow6 hl6)
          clear HK
          have HK := HKd
          clear HKd c18
          clear hown6 hgrow6 hl6 hlt6
          refine hK.out _ _ HK.out.l (fun hHeld => ?_)
          clear hK K
          refine wpAnyH_ready (rs := [21]) (by kernel_rfl) (by simp) ?_
          refine AllReadyH.cons (by rw [List.getElem?_toArray]; rfl) (fun K hK => ?_) AllReadyH.nil
          have c5 := cell_of_row _ gi 3 _ 26 _ HK.out.box
          have f5 : World.frozen? _ ⟨gi, 3, none⟩ = false := frozen_of_row _ gi 3 _ 26 HK.out.box
          simp at c5
          clear hHeld
          go_simp
          have HKd := Lib.hid (kr_put HK.out 3 (.slice (some ⟨g5, 0, none⟩) (k + 1) cap5) rfl)
          clear HK
          have HK := HKd
          clear HKd
          refine hK.out _ _ HK.out.l (fun hHeld => ?_)
          clear hK K c5 f5
          refine wpAnyH_take (i := 22) (v := ?vu60) (by rw [List.getElem?_toArray]; rfl) (by kernel_rfl) (by kernel_rfl) (by kernel_rfl) ?ku60 (Or.inl ⟨by rfl, ?yu60⟩) hHeld ?ru60
          case ku60 => exact fun c a w h => hP c a _ _ w h
          case yu60 => (intro wz hSw; clear hSw; go_simp; try (with_reducible rfl))
          simp only [Act.put, List.setIfInBounds_toArray, List.set_cons_zero, List.set_cons_succ]
          refine wpAnyH_ready (rs := [23]) (by kernel_rfl) (by simp) ?_
          refine AllReadyH.cons (by rw [List.getElem?_toArray]; rfl) (fun K hK => ?_) AllReadyH.nil
          have c5 := cell_of_row _ gi 4 _ 26 _ HK.out.box
          have f5 : World.frozen? _ ⟨gi, 4, none⟩ = false := frozen_of_row _ gi 4 _ 26 HK.out.box
          simp at c5
          clear hHeld
          go_simp
          have HKd := Lib.hid (kr_put HK.out 4 (.slice (some ⟨g6, 0, none⟩) (k + 1) cap6) rfl)
          clear HK
          have HK := HKd
          clear HKd
          refine hK.out _ _ HK.out.l (fun hHeld => ?_)
          clear hK K c5 f5 hHeld
          refine wpAnyH_done (by kernel_rfl) ?_ _
          exact HRT.out _ _ _ _ _ _ _ _ _ _ _ _ _ _ _ _ _ _ _ _ _ _ _ _ _ _ _ HK.out
      · have c5 : vu54.cell? ⟨gi, 4, none⟩ = some vV := cell_of_row _ gi 4 _ 26 _ HK.out.box
        clear hHeld
        go_simp
        refine hK.out _ _ HK.out.l (fun hHeld => ?_)
        clear hK K c5
        refine wpAnyH_ready (rs := [9, 18]) (by kernel_rfl) (by simp) ?_
        refine AllReadyH.cons (by rw [List.getElem?_toArray]; rfl) (fun K hK => ?_) (AllReadyH.cons (by rw [List.getElem?_toArray]; rfl) (fun K hK => ?_) AllReadyH.nil)
        · clear hHeld
          rw [if_pos (by rfl)]
          refine wp_append_lies _ _ _ 23 rfl B 3 i0 (.int .i64 0) 1 8 Try.underlying23 hi hz0 hz1 hz2 rfl (by decide) vW k _ rfl HK.out.rw ⟨p8, 0, none⟩ 1 1 [(.int .i64 x7)] rfl rfl (one_news c8.out) (by simp [Value.oneCell']) (by decide) (by unfold maxLen; omega) (by omega) HK.out.sz _ rfl ?_
          intro g5 cap5 w5 hown5 hgrow5 hl5 hlt5
          have HKd := Lib.hid (HK.out.addW HY7.out hown5 hgrow5 hl5)
          clear HK
          have HK := HKd
          clear HKd c8
          clear hown5 hgrow5 hl5 hlt5
          refine hK.out _ _ HK.out.l (fun hHeld => ?_)
          clear hK K
          refine wpAnyH_take (i := 20) (v := ?vu61) (by rw [List.getElem?_toArray]; rfl) (by kernel_rfl) (by kernel_rfl) (by kernel_rfl) ?ku61 (Or.inl ⟨by rfl, ?yu61⟩) hHeld ?ru61
          case ku61 => exact fun c a w h => hP c a _ _ w h
          case yu61 => (intro wz hSw; clear hSw; go_simp; try (with_reducible rfl))
          simp only [Act.put, List.setIfInBounds_toArray, List.set_cons_zero, List.set_cons_succ]
          refine wpAnyH_ready (rs := [18]) (by kernel_rfl) (by simp) ?_
          refine AllReadyH.cons (by rw [List.getElem?_toArray]; rfl) (fun K hK => ?_) AllReadyH.nil
          clear hHeld
          go_simp
          have c18 := Lib.hid (one_new w5 (.int .i64 x17))
          have HKd := Lib.hid (HK.out.alloc (.cells #[(.int .i64 x17)] 3))
          clear HK
          have HK := HKd
          clear HKd
          refine hK.out _ _ HK.out.l (fun hHeld => ?_)
          clear hK K
          generalize (w5.alloc (.cells #[(.int .i64 x17)] 3)) = vu62 at *
          generalize w5.heap.size = p18 at *
          refine wpAnyH_ready (rs := [19]) (by kernel_rfl) (by simp) ?_
          refine AllReadyH.cons (by rw [List.getElem?_toArray]; rfl) (fun K hK => ?_) AllReadyH.nil
          clear hHeld
          rw [if_pos (by rfl)]
          refine wp_append_lies _ _ _ 23 rfl B 3 i0 (.int .i64 0) 1 8 Try.underlying23 hi hz0 hz1 hz2 rfl (by decide) vV k _ rfl HK.out.rv ⟨p18, 0, none⟩ 1 1 [(.int .i64 x17)] rfl rfl (one_news c18.out) (by simp [Value.oneCell']) (by decide) (by unfold maxLen; omega) (by omega) HK.out.sz _ rfl ?_
          intro g6 cap6 w6 hown6 hgrow6 hl6 hlt6
          have HKd := Lib.hid (HK.out.addV HY17.out hown6 hgrow6 hl6)
          clear HK
          have HK := HKd
          clear HKd c18
          clear hown6 hgrow6 hl6 hlt6
          refine hK.out _ _ HK.out.l (fun hHeld => ?_)
          clear hK K
          refine wpAnyH_ready (rs := [21]) (by kernel_rfl) (by simp) ?_
          refine AllReadyH.cons (by rw [List.getElem?_toArray]; rfl) (fun K hK => ?_) AllReadyH.nil
          have c5 := cell_of_row _ gi 3 _ 26 _ HK.out.box
          have f5 : World.frozen? _ ⟨gi, 3, none⟩ = false := frozen_of_row _ gi 3 _ 26 HK.out.box
          simp at c5
          clear hHeld
          go_simp
          have HKd := Lib.hid (kr_put HK.out 3 (.slice (some ⟨g5, 0, none⟩) (k + 1) cap5) rfl)
          clear HK
          have HK := HKd
          clear HKd
          refine hK.out _ _ HK.out.l (fun hHeld => ?_)
          clear hK K c5 f5
          refine wpAnyH_take (i := 22) (v := ?vu63) (by rw [List.getElem?_toArray]; rfl) (by kernel_rfl) (by kernel_rfl) (by kernel_rfl) ?ku63 (Or.inl ⟨by rfl, ?yu63⟩) hHeld ?ru63
          case ku63 => exact fun c a w h => hP c a _ _ w h
          case yu63 => (intro wz hSw; clear hSw; go_simp; try (with_reducible rfl))
          simp only [Act.put, List.setIfInBounds_toArray, List.set_cons_zero, List.set_cons_succ]
          refine wpAnyH_ready (rs := [23]) (by kernel_rfl) (by simp) ?_
          refine AllReadyH.cons (by rw [List.getElem?_toArray]; rfl) (fun K hK => ?_) AllReadyH.nil
          have c5 := cell_of_row _ gi 4 _ 26 _ HK.out.box
          have f5 : World.frozen? _ ⟨gi, 4, none⟩ = false := frozen_of_row _ gi 4 _ 26 HK.out.box
          simp at c5
          clear hHeld
          go_simp
          have HKd := Lib.hid (kr_put HK.out 4 (.slice (some ⟨g6, 0, none⟩) (k + 1) cap6) rfl)
          clear HK
          have HK := HKd
          clear HKd
          refine hK.out _ _ HK.out.l (fun hHeld => ?_)
          clear hK K c5 f5 hHeld
          refine wpAnyH_done (by kernel_rfl) ?_ _
          exact HRT.out _ _ _ _ _ _ _ _ _ _ _ _ _ _ _ _ _ _ _ _ _ _ _ _ _ _ _ HK.out
        · clear hHeld
          go_simp
          have n18 := Lib.hid (row_fresh HK.out.rw)
          have c18 := Lib.hid (one_new vu54 (.int .i64 x17))
          have c8x := Lib.hid (one_alloc c8.out (.cells #[(.int .i64 x17)] 3))
          clear c8
          have c8 := c8x
          clear c8x
          have HKd := Lib.hid (HK.out.alloc (.cells #[(.int .i64 x17)] 3))
          clear HK
          have HK := HKd
          clear HKd
          refine hK.out _ _ HK.out.l (fun hHeld => ?_)
          clear hK K
          generalize (vu54.alloc (.cells #[(.int .i64 x17)] 3)) = vu64 at *
          generalize vu54.heap.size = p18 at *
          refine wpAnyH_ready (rs := [9]) (by kernel_rfl) (by simp) ?_
          refine AllReadyH.cons (by rw [List.getElem?_toArray]; rfl) (fun K hK => ?_) AllReadyH.nil
          clear hHeld
          rw [if_pos (by rfl)]
          refine wp_append_lies _ _ _ 23 rfl B 3 i0 (.int .i64 0) 1 8 Try.underlying23 hi hz0 hz1 hz2 rfl (by decide) vW k _ rfl HK.out.rw ⟨p8, 0, none⟩ 1 1 [(.int .i64 x7)] rfl rfl (one_news c8.out) (by simp [Value.oneCell']) (by decide) (by unfold maxLen; omega) (by omega) HK.out.sz _ rfl ?_
          intro g5 cap5 w5 hown5 hgrow5 hl5 hlt5
          have HKd := Lib.hid (HK.out.addW HY7.out hown5 hgrow5 hl5)
          clear HK
          have HK := HKd
          clear HKd c8
          have c18x := Lib.hid (one_kept c18.out hgrow5 n18.out)
          clear c18 n18
          have c18 := c18x
          clear c18x
          clear hown5 hgrow5 hl5 hlt5
          refine hK.out _ _ HK.out.l (fun hHeld => ?_)
          clear hK K
          refine wpAnyH_take (i := 20) (v := ?vu65) (by rw [List.getElem?_toArray]; rfl) (by kernel_rfl) (by kernel_rfl) (by kernel_rfl) ?ku65 (Or.inl ⟨by rfl, ?yu65⟩) hHeld ?ru65
          case ku65 => exact fun c a w h => hP c a _ _ w h
          case yu65 => (intro wz hSw; clear hSw; go_simp; try (with_reducible rfl))
          simp only [Act.put, List.setIfInBounds_toArray, List.set_cons_zero, List.set_cons_succ]
          refine wpAnyH_ready (rs := [19]) (by kernel_rfl) (by simp) ?_
          refine AllReadyH.cons (by rw [List.getElem?_toArray]; rfl) (fun K hK => ?_) AllReadyH.nil
          clear hHeld
          rw [if_pos (by rfl)]
          refine wp_append_lies _ _ _ 23 rfl B 3 i0 (.int .i64 0) 1 8 Try.underlying23 hi hz0 hz1 hz2 rfl (by decide) vV k _ rfl HK.out.rv ⟨p18, 0, none⟩ 1 1 [(.int .i64 x17)] rfl rfl (one_news c18.out) (by simp [Value.oneCell']) (by decide) (by unfold maxLen; omega) (by omega) HK.out.sz _ rfl ?_
          intro g6 cap6 w6 hown6 hgrow6 hl6 hlt6
          have HKd := Lib.hid (HK.out.addV HY17.out hown6 hgrow6 hl6)
          clear HK
          have HK := HKd
          clear HKd c18
          clear hown6 hgrow6 hl6 hlt6
          refine hK.out _ _ HK.out.l (fun hHeld => ?_)
          clear hK K
          refine wpAnyH_ready (rs := [21]) (by kernel_rfl) (by simp) ?_
          refine AllReadyH.cons (by rw [List.getElem?_toArray]; rfl) (fun K hK => ?_) AllReadyH.nil
          have c5 := cell_of_row _ gi 3 _ 26 _ HK.out.box
          have f5 : World.frozen? _ ⟨gi, 3, none⟩ = false := frozen_of_row _ gi 3 _ 26 HK.out.box
          simp at c5
          clear hHeld
          go_simp
          have HKd := Lib.hid (kr_put HK.out 3 (.slice (some ⟨g5, 0, none⟩) (k + 1) cap5) rfl)
          clear HK
          have HK := HKd
          clear HKd
          refine hK.out _ _ HK.out.l (fun hHeld => ?_)
          clear hK K c5 f5
          refine wpAnyH_take (i := 22) (v := ?vu66) (by rw [List.getElem?_toArray]; rfl) (by kernel_rfl) (by kernel_rfl) (by kernel_rfl) ?ku66 (Or.inl ⟨by rfl, ?yu66⟩) hHeld ?ru66
          case ku66 => exact fun c a w h => hP c a _ _ w h
          case yu66 => (intro wz hSw; clear hSw; go_simp; try (with_reducible rfl))
          simp only [Act.put, List.setIfInBounds_toArray, List.set_cons_zero, List.set_cons_succ]
          refine wpAnyH_ready (rs := [23]) (by kernel_rfl) (by simp) ?_
          refine AllReadyH.cons (by rw [List.getElem?_toArray]; rfl) (fun K hK => ?_) AllReadyH.nil
          have c5 := cell_of_row _ gi 4 _ 26 _ HK.out.box
          have f5 : World.frozen? _ ⟨gi, 4, none⟩ = false := frozen_of_row _ gi 4 _ 26 HK.out.box
          simp at c5
          clear hHeld
          go_simp
          have HKd := Lib.hid (kr_put HK.out 4 (.slice (some ⟨g6, 0, none⟩) (k + 1) cap6) rfl)
          clear HK
          have HK := HKd
          clear HKd
          refine hK.out _ _ HK.out.l (fun hHeld => ?_)
          clear hK K c5 f5 hHeld
          refine wpAnyH_done (by kernel_rfl) ?_ _
          exact HRT.out _ _ _ _ _ _ _ _ _ _ _ _ _ _ _ _ _ _ _ _ _ _ _ _ _ _ _ HK.out
      · clear hHeld
        go_simp
        have n18 := Lib.hid (row_fresh HK.out.rw)
        have c18 := Lib.hid (one_new vu54 (.int .i64 x17))
        have c8x := Lib.hid (one_alloc c8.out (.cells #[(.int .i64 x17)] 3))
        clear c8
        have c8 := c8x
        clear c8x
        have HKd := Lib.hid (HK.out.alloc (.cells #[(.int .i64 x17)] 3))
        clear HK
        have HK := HKd
        clear HKd
        refine hK.out _ _ HK.out.l (fun hHeld => ?_)
        clear hK K
        generalize (vu54.alloc (.cells #[(.int .i64 x17)] 3)) = vu67 at *
        generalize vu54.heap.size = p18 at *
        refine wpAnyH_ready (rs := [9, 11]) (by kernel_rfl) (by simp) ?_
        refine AllReadyH.cons (by rw [List.getElem?_toArray]; rfl) (fun K hK => ?_) (AllReadyH.cons (by rw [List.getElem?_toArray]; rfl) (fun K hK => ?_) AllReadyH.nil)
        · clear hHeld
          rw [if_pos (by rfl)]
          refine wp_append_lies _ _ _ 23 rfl B 3 i0 (.int .i64 0) 1 8 Try.underlying23 hi hz0 hz1 hz2 rfl (by decide) vW k _ rfl HK.out.rw ⟨p8, 0, none⟩ 1 1 [(.int .i64 x7)] rfl rfl (one_news c8.out) (by simp [Value.oneCell']) (by decide) (by unfold maxLen; omega) (by omega) HK.out.sz _ rfl ?_
          intro g5 cap5 w5 hown5 hgrow5 hl5 hlt5
          have HKd := Lib.hid (HK.out.addW HY7.out hown5 hgrow5 hl5)
          clear HK
          have HK := HKd
          clear HKd c8
          have c18x := Lib.hid (one_kept c18.out hgrow5 n18.out)
          clear c18 n18
          have c18 := c18x
          clear c18x
          clear hown5 hgrow5 hl5 hlt5
          refine hK.out _ _ HK.out.l (fun hHeld => ?_)
          clear hK K
          refine wpAnyH_ready (rs := [11]) (by kernel_rfl) (by simp) ?_
          refine AllReadyH.cons (by rw [List.getElem?_toArray]; rfl) (fun K hK => ?_) AllReadyH.nil
          have c5 : w5.cell? ⟨gi, 4, none⟩ = some vV := cell_of_row _ gi 4 _ 26 _ HK.out.box
          clear hHeld
          go_simp
          refine hK.out _ _ HK.out.l (fun hHeld => ?_)
          clear hK K c5
          refine wpAnyH_take (i := 20) (v := ?vu68) (by rw [List.getElem?_toArray]; rfl) (by kernel_rfl) (by kernel_rfl) (by kernel_rfl) ?ku68 (Or.inl ⟨by rfl, ?yu68⟩) hHeld ?ru68
          case ku68 => exact fun c a w h => hP c a _ _ w h
          case yu68 => (intro wz hSw; clear hSw; go_simp; try (with_reducible rfl))
          simp only [Act.put, List.setIfInBounds_toArray, List.set_cons_zero, List.set_cons_succ]
          refine wpAnyH_ready (rs := [19]) (by kernel_rfl) (by simp) ?_
          refine AllReadyH.cons (by rw [List.getElem?_toArray]; rfl) (fun K hK => ?_) AllReadyH.nil
          clear hHeld
          rw [if_pos (by rfl)]
          refine wp_append_lies _ _ _ 23 rfl B 3 i0 (.int .i64 0) 1 8 Try.underlying23 hi hz0 hz1 hz2 rfl (by decide) vV k _ rfl HK.out.rv ⟨p18, 0, none⟩ 1 1 [(.int .i64 x17)] rfl rfl (one_news c18.out) (by simp [Value.oneCell']) (by decide) (by unfold maxLen; omega) (by omega) HK.out.sz _ rfl ?_
          intro g6 cap6 w6 hown6 hgrow6 hl6 hlt6
          have HKd := Lib.hid (HK.out.addV HY17.out hown6 hgrow6 hl6)
          clear HK
          have HK := HKd
          clear HKd c18
          clear hown6 hgrow6 hl6 hlt6
          refine hK.out _ _ HK.out.l (fun hHeld => ?_)
          clear hK K
          refine wpAnyH_ready (rs := [21]) (by kernel_rfl) (by simp) ?_
          refine AllReadyH.cons (by rw [List.getElem?_toArray]; rfl) (fun K hK => ?_) AllReadyH.nil
          have c5 := cell_of_row _ gi 3 _ 26 _ HK.out.box
          have f5 : World.frozen? _ ⟨gi, 3, none⟩ = false := frozen_of_row _ gi 3 _ 26 HK.out.box
          simp at c5
          clear hHeld
          go_simp
          have HKd := Lib.hid (kr_put HK.out 3 (.slice (some ⟨g5, 0, none⟩) (k + 1) cap5) rfl)
          clear HK
          have HK := HKd
          clear HKd
          refine hK.out _ _ HK.out.l (fun hHeld => ?_)
          clear hK K c5 f5
          refine wpAnyH_take (i := 22) (v := ?vu69) (by rw [List.getElem?_toArray]; rfl) (by kernel_rfl) (by kernel_rfl) (by kernel_rfl) ?ku69 (Or.inl ⟨by rfl, ?yu69⟩) hHeld ?ru69
          case ku69 => exact fun c a w h => hP c a _ _ w h
          case yu69 => (intro wz hSw; clear hSw; go_simp; try (with_reducible rfl))
          simp only [Act.put, List.setIfInBounds_toArray, List.set_cons_zero, List.set_cons_succ]
          refine wpAnyH_ready (rs := [23]) (by kernel_rfl) (by simp) ?_
          refine AllReadyH.cons (by rw [List.getElem?_toArray]; rfl) (fun K hK => ?_) AllReadyH.nil
          have c5 := cell_of_row _ gi 4 _ 26 _ HK.out.box
          have f5 : World.frozen? _ ⟨gi, 4, none⟩ = false := frozen_of_row _ gi 4 _ 26 HK.out.box
          simp at c5
          clear hHeld
          go_simp
          have HKd := Lib.hid (kr_put HK.out 4 (.slice (some ⟨g6, 0, none⟩) (k + 1) cap6) rfl)
          clear HK
          have HK := HKd
          clear HKd
          refine hK.out _ _ HK.out.l (fun hHeld => ?_)
          clear hK K c5 f5 hHeld
          refine wpAnyH_done (by kernel_rfl) ?_ _
          exact HRT.out _ _ _ _ _ _ _ _ _ _ _ _ _ _ _ _ _ _ _ _ _ _ _ _ _ _ _ HK.out
        · have c5 : vu67.cell? ⟨gi, 4, none⟩ = some vV := cell_of_row _ gi 4 _ 26 _ HK.out.box
          clear hHeld
          go_simp
          refine hK.out _ _ HK.out.l (fun hHeld => ?_)
          clear hK K c5
          refine wpAnyH_ready (rs := [9]) (by kernel_rfl) (by simp) ?_
          refine AllReadyH.cons (by rw [List.getElem?_toArray]; rfl) (fun K hK => ?_) AllReadyH.nil
          clear hHeld
          rw [if_pos (by rfl)]
          refine wp_append_lies _ _ _ 23 rfl B 3 i0 (.int .i64 0) 1 8 Try.underlying23 hi hz0 hz1 hz2 rfl (by decide) vW k _ rfl HK.out.rw ⟨p8, 0, none⟩ 1 1 [(.int .i64 x7)] rfl rfl (one_news c8.out) (by simp [Value.oneCell']) (by decide) (by unfold maxLen; omega) (by omega) HK.out.sz _ rfl ?_
          intro g5 cap5 w5 hown5 hgrow5 hl5 hlt5
          have HKd := Lib.hid (HK.out.addW HY7.out hown5 hgrow5 hl5)
          clear HK
          have HK := HKd
          clear HKd c8
          have c18x := Lib.hid (one_kept c18.out hgrow5 n18.out)
          clear c18 n18
          have c18 := c18x
          clear c18x
          clear hown5 hgrow5 hl5 hlt5
          refine hK.out _ _ HK.out.l (fun hHeld => ?_)
          clear hK K
          refine wpAnyH_take (i := 20) (v := ?vu70) (by rw [List.getElem?_toArray]; rfl) (by kernel_rfl) (by kernel_rfl) (by kernel_rfl) ?ku70 (Or.inl ⟨by rfl, ?yu70⟩) hHeld ?ru70
          case ku70 => exact fun c a w h => hP c a _ _ w h
          case yu70 => (intro wz hSw; clear hSw; go_simp; try (with_reducible rfl))
          simp only [Act.put, List.setIfInBounds_toArray, List.set_cons_zero, List.set_cons_succ]
          refine wpAnyH_ready (rs := [19]) (by kernel_rfl) (by simp) ?_
          refine AllReadyH.cons (by rw [List.getElem?_toArray]; rfl) (fun K hK => ?_) AllReadyH.nil
          clear hHeld
          rw [if_pos (by rfl)]
          refine wp_append_lies _ _ _ 23 rfl B 3 i0 (.int .i64 0) 1 8 Try.underlying23 hi hz0 hz1 hz2 rfl (by decide) vV k _ rfl HK.out.rv ⟨p18, 0, none⟩ 1 1 [(.int .i64 x17)] rfl rfl (one_news c18.out) (by simp [Value.oneCell']) (by decide) (by unfold maxLen; omega) (by omega) HK.out.sz _ rfl ?_
          intro g6 cap6 w6 hown6 hgrow6 hl6 hlt6
          have HKd := Lib.hid (HK.out.addV HY17.out hown6 hgrow6 hl6)
          clear HK
          have HK := HKd
          clear HKd c18
          clear hown6 hgrow6 hl6 hlt6
          refine hK.out _ _ HK.out.l (fun hHeld => ?_)
          clear hK K
          refine wpAnyH_ready (rs := [21]) (by kernel_rfl) (by simp) ?_
          refine AllReadyH.cons (by rw [List.getElem?_toArray]; rfl) (fun K hK => ?_) AllReadyH.nil
          have c5 := cell_of_row _ gi 3 _ 26 _ HK.out.box
          have f5 : World.frozen? _ ⟨gi, 3, none⟩ = false := frozen_of_row _ gi 3 _ 26 HK.out.box
          simp at c5
          clear hHeld
          go_simp
          have HKd := Lib.hid (kr_put HK.out 3 (.slice (some ⟨g5, 0, none⟩) (k + 1) cap5) rfl)
          clear HK
          have HK := HKd
          clear HKd
          refine hK.out _ _ HK.out.l (fun hHeld => ?_)
          clear hK K c5 f5
          refine wpAnyH_take (i := 22) (v := ?vu71) (by rw [List.getElem?_toArray]; rfl) (by kernel_rfl) (by kernel_rfl) (by kernel_rfl) ?ku71 (Or.inl ⟨by rfl, ?yu71⟩) hHeld ?ru71
          case ku71 => exact fun c a w h => hP c a _ _ w h
          case yu71 => (intro wz hSw; clear hSw; go_simp; try (with_reducible rfl))
          simp only [Act.put, List.setIfInBounds_toArray, List.set_cons_zero, List.set_cons_succ]
          refine wpAnyH_ready (rs := [23]) (by kernel_rfl) (by simp) ?_
          refine AllReadyH.cons (by rw [List.getElem?_toArray]; rfl) (fun K hK => ?_) AllReadyH.nil
          have c5 := cell_of_row _ gi 4 _ 26 _ HK.out.box
          have f5 : World.frozen? _ ⟨gi, 4, none⟩ = false := frozen_of_row _ gi 4 _ 26 HK.out.box
          simp at c5
          clear hHeld
          go_simp
          have HKd := Lib.hid (kr_put HK.out 4 (.slice (some ⟨g6, 0, none⟩) (k + 1) cap6) rfl)
          clear HK
          have HK := HKd
          clear HKd
          refine hK.out _ _ HK.out.l (fun hHeld => ?_)
          clear hK K c5 f5 hHeld
          refine wpAnyH_done (by kernel_rfl) ?_ _
          exact HRT.out _ _ _ _ _ _ _ _ _ _ _ _ _ _ _ _ _ _ _ _ _ _ _ _ _ _ _ HK.out
    · have c5 : vu54.cell? ⟨gi, 4, none⟩ = some vV := cell_of_row _ gi 4 _ 26 _ HK.out.box
      clear hHeld
      go_simp
      refine hK.out _ _ HK.out.l (fun hHeld => ?_)
      clear hK K c5
      refine wpAnyH_ready (rs := [1, 18]) (by kernel_rfl) (by simp) ?_
      refine AllReadyH.cons (by rw [List.getElem?_toArray]; rfl) (fun K hK => ?_) (AllReadyH.cons (by rw [List.getElem?_toArray]; rfl) (fun K hK => ?_) AllReadyH.nil)
      · have c5 : vu54.cell? ⟨gi, 3, none⟩ = some vW := cell_of_row _ gi 3 _ 26 _ HK.out.box
        clear hHeld
        go_simp
        refine hK.out _ _ HK.out.l (fun hHeld => ?_)
        clear hK K c5
        refine wpAnyH_ready (rs := [9, 18]) (by kernel_rfl) (by simp) ?_
        refine AllReadyH.cons (by rw [List.getElem?_toArray]; rfl) (fun K hK => ?_) (AllReadyH.cons (by rw [List.getElem?_toArray]; rfl) (fun K hK => ?_) AllReadyH.nil)
        · clear hHeld
          rw [if_pos (by rfl)]
          refine wp_append_lies _ _ _ 23 rfl B 3 i0 (.int .i64 0) 1 8 Try.underlying23 hi hz0 hz1 hz2 rfl (by decide) vW k _ rfl HK.out.rw ⟨p8, 0, none⟩ 1 1 [(.int .i64 x7)] rfl rfl (one_news c8.out) (by simp [Value.oneCell']) (by decide) (by unfold maxLen; omega) (by omega) HK.out.sz _ rfl ?_
          intro g5 cap5 w5 hown5 hgrow5 hl5 hlt5
          have HKd := Lib.hid (HK.out.addW HY7.out hown5 hgrow5 hl5)
          clear HK
          have HK := HKd
          clear HKd c8
          clear hown5 hgrow5 hl5 hlt5
          refine hK.out _ _ HK.out.l (fun hHeld => ?_)
          clear hK K
          refine wpAnyH_take (i := 20) (v := ?vu72) (by rw [List.getElem?_toArray]; rfl) (by kernel_rfl) (by kernel_rfl) (by kernel_rfl) ?ku72 (Or.inl ⟨by rfl, ?yu72⟩) hHeld ?ru72
          case ku72 => exact fun c a w h => hP c a _ _ w h
          case yu72 => (intro wz hSw; clear hSw; go_simp; try (with_reducible rfl))
          simp only [Act.put, List.setIfInBounds_toArray, List.set_cons_zero, List.set_cons_succ]
          refine wpAnyH_ready (rs := [18]) (by kernel_rfl) (by simp) ?_
          refine AllReadyH.cons (by rw [List.getElem?_toArray]; rfl) (fun K hK => ?_) AllReadyH.nil
          clear hHeld
          go_simp
          have c18 := Lib.hid (one_new w5 (.int .i64 x17))
          have HKd := Lib.hid (HK.out.alloc (.cells #[(.int .i64 x17)] 3))
          clear HK
          have HK := HKd
          clear HKd
          refine hK.out _ _ HK.out.l (fun hHeld => ?_)
          clear hK K
          generalize (w5.alloc (.cells #[(.int .i64 x17)] 3)) = vu73 at *
          generalize w5.heap.size = p18 at *
          refine wpAnyH_ready (rs := [19]) (by kernel_rfl) (by simp) ?_
          refine AllReadyH.cons (by rw [List.getElem?_toArray]; rfl) (fun K hK => ?_) AllReadyH.nil
          clear hHeld
          rw [if_pos (by rfl)]
          refine wp_append_lies _ _ _ 23 rfl B 3 i0 (.int .i64 0) 1 8 Try.underlying23 hi hz0 hz1 hz2 rfl (by decide) vV k _ rfl HK.out.rv ⟨p18, 0, none⟩ 1 1 [(.int .i64 x17)] rfl rfl (one_news c18.out) (by simp [Value.oneCell']) (by decide) (by unfold maxLen; omega) (by omega) HK.out.sz _ rfl ?_
          intro g6 cap6 w6 hown6 hgrow6 hl6 hlt6
          have HKd := Lib.hid (HK.out.addV HY17.out hown6 hgrow6 hl6)
          clear HK
          have HK := HKd
          clear HKd c18
          clear hown6 hgrow6 hl6 hlt6
          refine hK.out _ _ HK.out.l (fun hHeld => ?_)
          clear hK K
          refine wpAnyH_ready (rs := [21]) (by kernel_rfl) (by simp) ?_
          refine AllReadyH.cons (by rw [List.getElem?_toArray]; rfl) (fun K hK => ?_) AllReadyH.nil
          have c5 := cell_of_row _ gi 3 _ 26 _ HK.out.box
          have f5 : World.frozen? _ ⟨gi, 3, none⟩ = false := frozen_of_row _ gi 3 _ 26 HK.out.box
          simp at c5
          clear hHeld
          go_simp
          have HKd := Lib.hid (kr_put HK.out 3 (.slice (some ⟨g5, 0, none⟩) (k + 1) cap5) rfl)
          clear HK
          have HK := HKd
          clear HKd
          refine hK.out _ _ HK.out.l (fun hHeld => ?_)
          clear hK K c5 f5
          refine wpAnyH_take (i := 22) (v := ?vu74) (by rw [List.getElem?_toArray]; rfl) (by kernel_rfl) (by kernel_rfl) (by kernel_rfl) ?ku74 (Or.inl ⟨by rfl, ?yu74⟩) hHeld ?ru74
          case ku74 => exact fun c a w h => hP c a _ _ w h
          case yu74 => (intro wz hSw; clear hSw; go_simp; try (with_reducible rfl))
          simp only [Act.put, List.setIfInBounds_toArray, List.set_cons_zero, List.set_cons_succ]
          refine wpAnyH_ready (rs := [23]) (by kernel_rfl) (by simp) ?_
          refine AllReadyH.cons (by rw [List.getElem?_toArray]; rfl) (fun K hK => ?_) AllReadyH.nil
          have c5 := cell_of_row _ gi 4 _ 26 _ HK.out.box
          have f5 : World.frozen? _ ⟨gi, 4, none⟩ = false := frozen_of_row _ gi 4 _ 26 HK.out.box
          simp at c5
          clear hHeld
          go_simp
          have HKd := Lib.hid (kr_put HK.out 4 (.slice (some ⟨g6, 0, none⟩) (k + 1) cap6) rfl)
          clear HK
          have HK := HKd
          clear HKd
          refine hK.out _ _ HK.out.l (fun hHeld => ?_)
          clear hK K c5 f5 hHeld
          refine wpAnyH_done (by kernel_rfl) ?_ _
          exact HRT.out _ _ _ _ _ _ _ _ _ _ _ _ _ _ _ _ _ _ _ _ _ _ _ _ _ _ _ HK.out
        · clear hHeld
          go_simp
          have n18 := Lib.hid (row_fresh HK.out.rw)
          have c18 := Lib.hid (one_new vu54 (.int .i64 x17))
          have c8x := Lib.hid (one_alloc c8.out (.cells #[(.int .i64 x17)] 3))
          clear c8
          have c8 := c8x
          clear c8x
          have HKd := Lib.hid (HK.out.alloc (.cells #[(.int .i64 x17)] 3))
          clear HK
          have HK := HKd
          clear HKd
          refine hK.out _ _ HK.out.l (fun hHeld => ?_)
          clear hK K
          generalize (vu54.alloc (.cells #[(.int .i64 x17)] 3)) = vu75 at *
          generalize vu54.heap.size = p18 at *
          refine wpAnyH_ready (rs := [9]) (by kernel_rfl) (by simp) ?_
          refine AllReadyH.cons (by rw [List.getElem?_toArray]; rfl) (fun K hK => ?_) AllReadyH.nil
          clear hHeld
          rw [if_pos (by rfl)]
          refine wp_append_lies _ _ _ 23 rfl B 3 i0 (.int .i64 0) 1 8 Try.underlying23 hi hz0 hz1 hz2 rfl (by decide) vW k _ rfl HK.out.rw ⟨p8, 0, none⟩ 1 1 [(.int .i64 x7)] rfl rfl (one_news c8.out) (by simp [Value.oneCell']) (by decide) (by unfold maxLen; omega) (by omega) HK.out.sz _ rfl ?_
          intro g5 cap5 w5 hown5 hgrow5 hl5 hlt5
          have HKd := Lib.hid (HK.out.addW HY7.out hown5 hgrow5 hl5)
          clear HK
          have HK := HKd
          clear HKd c8
          have c18x := Lib.hid (one_kept c18.out hgrow5 n18.out)
          clear c18 n18
          have c18 := c18x
          clear c18x
          clear hown5 hgrow5 hl5 hlt5
          refine hK.out _ _ HK.out.l (fun hHeld => ?_)
          clear hK K
          refine wpAnyH_take (i := 20) (v := ?vu76) (by rw [List.getElem?_toArray]; rfl) (by kernel_rfl) (by kernel_rfl) (by kernel_rfl) ?ku76 (Or.inl ⟨by rfl, ?yu76⟩) hHeld ?ru76
          case ku76 => exact fun c a w h => hP c a _ _ w h
          case yu76 => (intro wz hSw; clear hSw; go_simp; try (with_reducible rfl))
          simp only [Act.put, List.setIfInBounds_toArray, List.set_cons_zero, List.set_cons_succ]
          refine wpAnyH_ready (rs := [19]) (by kernel_rfl) (by simp) ?_
          refine AllReadyH.cons (by rw [List.getElem?_toArray]; rfl) (fun K hK => ?_) AllReadyH.nil
          clear hHeld
          rw [if_pos (by rfl)]
          refine wp_append_lies _ _ _ 23 rfl B 3 i0 (.int .i64 0) 1 8 Try.underlying23 hi hz0 hz1 hz2 rfl (by decide) vV k _ rfl HK.out.rv ⟨p18, 0, none⟩ 1 1 [(.int .i64 x17)] rfl rfl (one_news c18.out) (by simp [Value.oneCell']) (by decide) (by unfold maxLen; omega) (by omega) HK.out.sz _ rfl ?_
          intro g6 cap6 w6 hown6 hgrow6 hl6 hlt6
          have HKd := Lib.hid (HK.out.addV HY17.out hown6 hgrow6 hl6)
          clear HK
          have HK := HKd
          clear HKd c18
          clear hown6 hgrow6 hl6 hlt6
          refine hK.out _ _ HK.out.l (fun hHeld => ?_)
          clear hK K
          refine wpAnyH_ready (rs := [21]) (by kernel_rfl) (by simp) ?_
          refine AllReadyH.cons (by rw [List.getElem?_toArray]; rfl) (fun K hK => ?_) AllReadyH.nil
          have c5 := cell_of_row _ gi 3 _ 26 _ HK.out.box
          have f5 : World.frozen? _ ⟨gi, 3, none⟩ = false := frozen_of_row _ gi 3 _ 26 HK.out.box
          simp at c5
          clear hHeld
          go_simp
          have HKd := Lib.hid (kr_put HK.out 3 (.slice (some ⟨g5, 0, none⟩) (k + 1) cap5) rfl)
          clear HK
          have HK := HKd
          clear HKd
          refine hK.out _ _ HK.out.l (fun hHeld => ?_)
          clear hK K c5 f5
          refine wpAnyH_take (i := 22) (v := ?vu77) (by rw [List.getElem?_toArray]; rfl) (by kernel_rfl) (by kernel_rfl) (by kernel_rfl) ?ku77 (Or.inl ⟨by rfl, ?yu77⟩) hHeld ?ru77
          case ku77 => exact fun c a w h => hP c a _ _ w h
          case yu77 => (intro wz hSw; clear hSw; go_simp; try (with_reducible rfl))
          simp only [Act.put, List.setIfInBounds_toArray, List.set_cons_zero, List.set_cons_succ]
          refine wpAnyH_ready (rs := [23]) (by kernel_rfl) (by simp) ?_
          refine AllReadyH.cons (by rw [List.getElem?_toArray]; rfl) (fun K hK => ?_) AllReadyH.nil
          have c5 := cell_of_row _ gi 4 _ 26 _ HK.out.box
          have f5 : World.frozen? _ ⟨gi, 4, none⟩ = false := frozen_of_row _ gi 4 _ 26 HK.out.box
          simp at c5
          clear hHeld
          go_simp
          have HKd := Lib.hid (kr_put HK.out 4 (.slice (some ⟨g6, 0, none⟩) (k + 1) cap6) rfl)
          clear HK
          have HK := HKd
          clear HKd
          refine hK.out _ _ HK.out.l (fun hHeld => ?_)
          clear hK K c5 f5 hHeld
          refine wpAnyH_done (by kernel_rfl) ?_ _
          exact HRT.out _ _ _ _ _ _ _ _ _ _ _ _ _ _ _ _ _ _ _ _ _ _ _ _ _ _ _ HK.out
      · clear hHeld
        go_simp
        have n18 := Lib.hid (row_fresh HK.out.rw)
        have c18 := Lib.hid (one_new vu54 (.int .i64 x17))
        have c8x := Lib.hid (one_alloc c8.out (.cells #[(.int .i64 x17)] 3))
        clear c8
        have c8 := c8x
        clear c8x
        have HKd := Lib.hid (HK.out.alloc (.cells #[(.int .i64 x17)] 3))
        clear HK
        have HK := HKd
        clear HKd
        refine hK.out _ _ HK.out.l (fun hHeld => ?_)
        clear hK K
        generalize (vu54.alloc (.cells #[(.int .i64 x17)] 3)) = vu78 at *
        generalize vu54.heap.size = p18 at *
        refine wpAnyH_ready (rs := [1]) (by kernel_rfl) (by simp) ?_
        refine AllReadyH.cons (by rw [List.getElem?_toArray]; rfl) (fun K hK => ?_) AllReadyH.nil
        have c5 : vu78.cell? ⟨gi, 3, none⟩ = some vW := cell_of_row _ gi 3 _ 26 _ HK.out.box
        clear hHeld
        go_simp
        refine hK.out _ _ HK.out.l (fun hHeld => ?_)
        clear hK K c5
        refine wpAnyH_ready (rs := [9]) (by kernel_rfl) (by simp) ?_
        refine AllReadyH.cons (by rw [List.getElem?_toArray]; rfl) (fun K hK => ?_) AllReadyH.nil
        clear hHeld
        rw [if_pos (by rfl)]
        refine wp_append_lies _ _ _ 23 rfl B 3 i0 (.int .i64 0) 1 8 Try.underlying23 hi hz0 hz1 hz2 rfl (by decide) vW k _ rfl HK.out.rw ⟨p8, 0, none⟩ 1 1 [(.int .i64 x7)] rfl rfl (one_news c8.out) (by simp [Value.oneCell']) (by decide) (by unfold maxLen; omega) (by omega) HK.out.sz _ rfl ?_
        intro g5 cap5 w5 hown5 hgrow5 hl5 hlt5
        have HKd := Lib.hid (HK.out.addW HY7.out hown5 hgrow5 hl5)
        clear HK
        have HK := HKd
        clear HKd c8
        have c18x := Lib.hid (one_kept c18.out hgrow5 n18.out)
        clear c18 n18
        have c18 := c18x
        clear c18x
        clear hown5 hgrow5 hl5 hlt5
        refine hK.out _ _ HK.out.l (fun hHeld => ?_)
        clear hK K
        refine wpAnyH_take (i := 20) (v := ?vu79) (by rw [List.getElem?_toArray]; rfl) (by kernel_rfl) (by kernel_rfl) (by kernel_rfl) ?ku79 (Or.inl ⟨by rfl, ?yu79⟩) hHeld ?ru79
        case ku79 => exact fun c a w h => hP c a _ _ w h
        case yu79 => (intro wz hSw; clear hSw; go_simp; try (with_reducible rfl))
        simp only [Act.put, List.setIfInBounds_toArray, List.set_cons_zero, List.set_cons_succ]
        refine wpAnyH_ready (rs := [19]) (by kernel_rfl) (by simp) ?_
        refine AllReadyH.cons (by rw [List.getElem?_toArray]; rfl) (fun K hK => ?_) AllReadyH.nil
        clear hHeld
        rw [if_pos (by rfl)]
        refine wp_append_lies _ _ _ 23 rfl B 3 i0 (.int .i64 0) 1 8 Try.underlying23 hi hz0 hz1 hz2 rfl (by decide) vV k _ rfl HK.out.rv ⟨p18, 0, none⟩ 1 1 [(.int .i64 x17)] rfl rfl (one_news c18.out) (by simp [Value.oneCell']) (by decide) (by unfold maxLen; omega) (by omega) HK.out.sz _ rfl ?_
        intro g6 cap6 w6 hown6 hgrow6 hl6 hlt6
        have HKd := Lib.hid (HK.out.addV HY17.out hown6 hgrow6 hl6)
        clear HK
        have HK := HKd
        clear HKd c18
        clear hown6 hgrow6 hl6 hlt6
        refine hK.out _ _ HK.out.l (fun hHeld => ?_)
        clear hK K
        refine wpAnyH_ready (rs := [21]) (by kernel_rfl) (by simp) ?_
        refine AllReadyH.cons (by rw [List.getElem?_toArray]; rfl) (fun K hK => ?_) AllReadyH.nil
        have c5 := cell_of_row _ gi 3 _ 26 _ HK.out.box
        have f5 : World.frozen? _ ⟨gi, 3, none⟩ = false := frozen_of_row _ gi 3 _ 26 HK.out.box
        simp at c5
        clear hHeld
        go_simp
        have HKd := Lib.hid (kr_put HK.out 3 (.slice (some ⟨g5, 0, none⟩) (k + 1) cap5) rfl)
        clear HK
        have HK := HKd
        clear HKd
        refine hK.out _ _ HK.out.l (fun hHeld => ?_)
        clear hK K c5 f5
        refine wpAnyH_take (i := 22) (v := ?vu80) (by rw [List.getElem?_toArray]; rfl) (by kernel_rfl) (by kernel_rfl) (by kernel_rfl) ?ku80 (Or.inl ⟨by rfl, ?yu80⟩) hHeld ?ru80
        case ku80 => exact fun c a w h => hP c a _ _ w h
        case yu80 => (intro wz hSw; clear hSw; go_simp; try (with_reducible rfl))
        simp only [Act.put, List.setIfInBounds_toArray, List.set_cons_zero, List.set_cons_succ]
        refine wpAnyH_ready (rs := [23]) (by kernel_rfl) (by simp) ?_
        refine AllReadyH.cons (by rw [List.getElem?_toArray]; rfl) (fun K hK => ?_) AllReadyH.nil
        have c5 := cell_of_row _ gi 4 _ 26 _ HK.out.box
        have f5 : World.frozen? _ ⟨gi, 4, none⟩ = false := frozen_of_row _ gi 4 _ 26 HK.out.box
        simp at c5
        clear hHeld
        go_simp
        have HKd := Lib.hid (kr_put HK.out 4 (.slice (some ⟨g6, 0, none⟩) (k + 1) cap6) rfl)
        clear HK
        have HK := HKd
        clear HKd
        refine hK.out _ _ HK.out.l (fun hHeld => ?_)
        clear hK K c5 f5 hHeld
        refine wpAnyH_done (by kernel_rfl) ?_ _
        exact HRT.out _ _ _ _ _ _ _ _ _ _ _ _ _ _ _ _ _ _ _ _ _ _ _ _ _ _ _ HK.out
    · clear hHeld
      go_simp
      have n18 := Lib.hid (row_fresh HK.out.rw)
      have c18 := Lib.hid (one_new vu54 (.int .i64 x17))
      have c8x := Lib.hid (one_alloc c8.out (.cells #[(.int .i64 x17)] 3))
      clear c8
      have c8 := c8x
      clear c8x
      have HKd := Lib.hid (HK.out.alloc (.cells #[(.int .i64 x17)] 3))
      clear HK
      have HK := HKd
      clear HKd
      refine hK.out _ _ HK.out.l (fun hHeld => ?_)
      clear hK K
      generalize (vu54.alloc (.cells #[(.int .i64 x17)] 3)) = vu81 at *
      generalize vu54.heap.size = p18 at *
      refine wpAnyH_ready (rs := [1, 11]) (by kernel_rfl) (by simp) ?_
      refine AllReadyH.cons (by rw [List.getElem?_toArray]; rfl) (fun K hK => ?_) (AllReadyH.cons (by rw [List.getElem?_toArray]; rfl) (fun K hK => ?_) AllReadyH.nil)
      · have c5 : vu81.cell? ⟨gi, 3, none⟩ = some vW := cell_of_row _ gi 3 _ 26 _ HK.out.box
        clear hHeld
        go_simp
        refine hK.out _ _ HK.out.l (fun hHeld => ?_)
        clear hK K c5
        refine wpAnyH_ready (rs := [9, 11]) (by kernel_rfl) (by simp) ?_
        refine AllReadyH.cons (by rw [List.getElem?_toArray]; rfl) (fun K hK => ?_) (AllReadyH.cons (by rw [List.getElem?_toArray]; rfl) (fun K hK => ?_) AllReadyH.nil)
        · clear hHeld
          rw [if_pos (by rfl)]
          refine wp_append_lies _ _ _ 23 rfl B 3 i0 (.int .i64 0) 1 8 Try.underlying23 hi hz0 hz1 hz2 rfl (by decide) vW k _ rfl HK.out.rw ⟨p8, 0, none⟩ 1 1 [(.int .i64 x7)] rfl rfl (one_news c8.out) (by simp [Value.oneCell']) (by decide) (by unfold maxLen; omega) (by omega) HK.out.sz _ rfl ?_
          intro g5 cap5 w5 hown5 hgrow5 hl5 hlt5
          have HKd := Lib.hid (HK.out.addW HY7.out hown5 hgrow5 hl5)
          clear HK
          have HK := HKd
          clear HKd c8
          have c18x := Lib.hid (one_kept c18.out hgrow5 n18.out)
          clear c18 n18
          have c18 := c18x
          clear c18x
          clear hown5 hgrow5 hl5 hlt5
          refine hK.out _ _ HK.out.l (fun hHeld => ?_)
          clear hK K
          refine wpAnyH_ready (rs := [11]) (by kernel_rfl) (by simp) ?_
          refine AllReadyH.cons (by rw [List.getElem?_toArray]; rfl) (fun K hK => ?_) AllReadyH.nil
          have c5 : w5.cell? ⟨gi, 4, none⟩ = some vV := cell_of_row _ gi 4 _ 26 _ HK.out.box
          clear hHeld
          go_simp
          refine hK.out _ _ HK.out.l (fun hHeld => ?_)
          clear hK K c5
          refine wpAnyH_take (i := 20) (v := ?vu82) (by rw [List.getElem?_toArray]; rfl) (by kernel_rfl) (by kernel_rfl) (by kernel_rfl) ?ku82 (Or.inl ⟨by rfl, ?yu82⟩) hHeld ?ru82
          case ku82 => exact fun c a w h => hP c a _ _ w h
          case yu82 => (intro wz hSw; clear hSw; go_simp; try (with_reducible rfl))
          simp only [Act.put, List.setIfInBounds_toArray, List.set_cons_zero, List.set_cons_succ]
          refine wpAnyH_ready (rs := [19]) (by kernel_rfl) (by simp) ?_
          refine AllReadyH.cons (by rw [List.getElem?_toArray]; rfl) (fun K hK => ?_) AllReadyH.nil
          clear hHeld
          rw [if_pos (by rfl)]
          refine wp_append_lies _ _ _ 23 rfl B 3 i0 (.int .i64 0) 1 8 Try.underlying23 hi hz0 hz1 hz2 rfl (by decide) vV k _ rfl HK.out.rv ⟨p18, 0, none⟩ 1 1 [(.int .i64 x17)] rfl rfl (one_news c18.out) (by simp [Value.oneCell']) (by decide) (by unfold maxLen; omega) (by omega) HK.out.sz _ rfl ?_
          intro g6 cap6 w6 hown6 hgrow6 hl6 hlt6
          have HKd := Lib.hid (HK.out.addV HY17.out hown6 hgrow6 hl6)
          clear HK
          have HK := HKd
          clear HKd c18
          clear hown6 hgrow6 hl6 hlt6
          refine hK.out _ _ HK.out.l (fun hHeld => ?_)
          clear hK K
          refine wpAnyH_ready (rs := [21]) (by kernel_rfl) (by simp) ?_
          refine AllReadyH.cons (by rw [List.getElem?_toArray]; rfl) (fun K hK => ?_) AllReadyH.nil
          have c5 := cell_of_row _ gi 3 _ 26 _ HK.out.box
          have f5 : World.frozen? _ ⟨gi, 3, none⟩ = false := frozen_of_row _ gi 3 _ 26 HK.out.box
          simp at c5
          clear hHeld
          go_simp
          have HKd := Lib.hid (kr_put HK.out 3 (.slice (some ⟨g5, 0, none⟩) (k + 1) cap5) rfl)
          clear HK
          have HK := HKd
          clear HKd
          refine hK.out _ _ HK.out.l (fun hHeld => ?_)
          clear hK K c5 f5
          refine wpAnyH_take (i := 22) (v := ?vu83) (by rw [List.getElem?_toArray]; rfl) (by kernel_rfl) (by kernel_rfl) (by kernel_rfl) ?ku83 (Or.inl ⟨by rfl, ?yu83⟩) hHeld ?ru83
          case ku83 => exact fun c a w h => hP c a _ _ w h
          case yu83 => (intro wz hSw; clear hSw; go_simp; try (with_reducible rfl))
          simp only [Act.put, List.setIfInBounds_toArray, List.set_cons_zero, List.set_cons_succ]
          refine wpAnyH_ready (rs := [23]) (by kernel_rfl) (by simp) ?_
          refine AllReadyH.cons (by rw [List.getElem?_toArray]; rfl) (fun K hK => ?_) AllReadyH.nil
          have c5 := cell_of_row _ gi 4 _ 26 _ HK.out.box
          have f5 : World.frozen? _ ⟨gi, 4, none⟩ = false := frozen_of_row _ gi 4 _ 26 HK.out.box
          simp at c5
          clear hHeld
          go_simp
          have HKd := Lib.hid (kr_put HK.out 4 (.slice (some ⟨g6, 0, none⟩) (k + 1) cap6) rfl)
          clear HK
          have HK := HKd
          clear HKd
          refine hK.out _ _ HK.out.l (fun hHeld => ?_)
          clear hK K c5 f5 hHeld
          refine wpAnyH_done (by kernel_rfl) ?_ _
          exact HRT.out _ _ _ _ _ _ _ _ _ _ _ _ _ _ _ _ _ _ _ _ _ _ _ _ _ _ _ HK.out
        · have c5 : vu81.cell? ⟨gi, 4, none⟩ = some vV := cell_of_row _ gi 4 _ 26 _ HK.out.box
          clear hHeld
          go_simp
          refine hK.out _ _ HK.out.l (fun hHeld => ?_)
          clear hK K c5
          refine wpAnyH_ready (rs := [9]) (by kernel_rfl) (by simp) ?_
          refine AllReadyH.cons (by rw [List.getElem?_toArray]; rfl) (fun K hK => ?_) AllReadyH.nil
          clear hHeld
          rw [if_pos (by rfl)]
          refine wp_append_lies _ _ _ 23 rfl B 3 i0 (.int .i64 0) 1 8 Try.underlying23 hi hz0 hz1 hz2 rfl (by decide) vW k _ rfl HK.out.rw ⟨p8, 0, none⟩ 1 1 [(.int .i64 x7)] rfl rfl (one_news c8.out) (by simp [Value.oneCell']) (by decide) (by unfold maxLen; omega) (by omega) HK.out.sz _ rfl ?_
          intro g5 cap5 w5 hown5 hgrow5 hl5 hlt5
          have HKd := Lib.hid (HK.out.addW HY7.out hown5 hgrow5 hl5)
          clear HK
          have HK := HKd
          clear HKd c8
          have c18x := Lib.hid (one_kept c18.out hgrow5 n18.out)
          clear c18 n18
          have c18 := c18x
          clear c18x
          clear hown5 hgrow5 hl5 hlt5
          refine hK.out _ _ HK.out.l (fun hHeld => ?_)
          clear hK K
          refine wpAnyH_take (i := 20) (v := ?vu84) (by rw [List.getElem?_toArray]; rfl) (by kernel_rfl) (by kernel_rfl) (by kernel_rfl) ?ku84 (Or.inl ⟨by rfl, ?yu84⟩) hHeld ?ru84
          case ku84 => exact fun c a w h => hP c a _ _ w h
          case yu84 => (intro wz hSw; clear hSw; go_simp; try (with_reducible rfl))
          simp only [Act.put, List.setIfInBounds_toArray, List.set_cons_zero, List.set_cons_succ]
          refine wpAnyH_ready (rs := [19]) (by kernel_rfl) (by simp) ?_
          refine AllReadyH.cons (by rw [List.getElem?_toArray]; rfl) (fun K hK => ?_) AllReadyH.nil
          clear hHeld
          rw [if_pos (by rfl)]
          refine wp_append_lies _ _ _ 23 rfl B 3 i0 (.int .i64 0) 1 8 Try.underlying23 hi hz0 hz1 hz2 rfl (by decide) vV k _ rfl HK.out.rv ⟨p18, 0, none⟩ 1 1 [(.int .i64 x17)] rfl rfl (one_news c18.out) (by simp [Value.oneCell']) (by decide) (by unfold maxLen; omega) (by omega) HK.out.sz _ rfl ?_
          intro g6 cap6 w6 hown6 hgrow6 hl6 hlt6
          have HKd := Lib.hid (HK.out.addV HY17.out hown6 hgrow6 hl6)
          clear HK
          have HK := HKd
          clear HKd c18
          clear hown6 hgrow6 hl6 hlt6
          refine hK.out _ _ HK.out.l (fun hHeld => ?_)
          clear hK K
          refine wpAnyH_ready (rs := [21]) (by kernel_rfl) (by simp) ?_
          refine AllReadyH.cons (by rw [List.getElem?_toArray]; rfl) (fun K hK => ?_) AllReadyH.nil
          have c5 := cell_of_row _ gi 3 _ 26 _ HK.out.box
          have f5 : World.frozen? _ ⟨gi, 3, none⟩ = false := frozen_of_row _ gi 3 _ 26 HK.out.box
          simp at c5
          clear hHeld
          go_simp
          have HKd := Lib.hid (kr_put HK.out 3 (.slice (some ⟨g5, 0, none⟩) (k + 1) cap5) rfl)
          clear HK
          have HK := HKd
          clear HKd
          refine hK.out _ _ HK.out.l (fun hHeld => ?_)
          clear hK K c5 f5
          refine wpAnyH_take (i := 22) (v := ?vu85) (by rw [List.getElem?_toArray]; rfl) (by kernel_rfl) (by kernel_rfl) (by kernel_rfl) ?ku85 (Or.inl ⟨by rfl, ?yu85⟩) hHeld ?ru85
          case ku85 => exact fun c a w h => hP c a _ _ w h
          case yu85 => (intro wz hSw; clear hSw; go_simp; try (with_reducible rfl))
          simp only [Act.put, List.setIfInBounds_toArray, List.set_cons_zero, List.set_cons_succ]
          refine wpAnyH_ready (rs := [23]) (by kernel_rfl) (by simp) ?_
          refine AllReadyH.cons (by rw [List.getElem?_toArray]; rfl) (fun K hK => ?_) AllReadyH.nil
          have c5 := cell_of_row _ gi 4 _ 26 _ HK.out.box
          have f5 : World.frozen? _ ⟨gi, 4, none⟩ = false := frozen_of_row _ gi 4 _ 26 HK.out.box
          simp at c5
          clear hHeld
          go_simp
          have HKd := Lib.hid (kr_put HK.out 4 (.slice (some ⟨g6, 0, none⟩) (k + 1) cap6) rfl)
          clear HK
          have HK := HKd
          clear HKd
          refine hK.out _ _ HK.out.l (fun hHeld => ?_)
          clear hK K c5 f5 hHeld
          refine wpAnyH_done (by kernel_rfl) ?_ _
          exact HRT.out _ _ _ _ _ _ _ _ _ _ _ _ _ _ _ _ _ _ _ _ _ _ _ _ _ _ _ HK.out
      · have c5 : vu81.cell? ⟨gi, 4, none⟩ = some vV := cell_of_row _ gi 4 _ 26 _ HK.out.box
        clear hHeld
        go_simp
        refine hK.out _ _ HK.out.l (fun hHeld => ?_)
        clear hK K c5
        refine wpAnyH_ready (rs := [1]) (by kernel_rfl) (by simp) ?_
        refine AllReadyH.cons (by rw [List.getElem?_toArray]; rfl) (fun K hK => ?_) AllReadyH.nil
        have c5 : vu81.cell? ⟨gi, 3, none⟩ = some vW := cell_of_row _ gi 3 _ 26 _ HK.out.box
        clear hHeld
        go_simp
        refine hK.out _ _ HK.out.l (fun hHeld => ?_)
        clear hK K c5
        refine wpAnyH_ready (rs := [9]) (by kernel_rfl) (by simp) ?_
        refine AllReadyH.cons (by rw [List.getElem?_toArray]; rfl) (fun K hK => ?_) AllReadyH.nil
        clear hHeld
        rw [if_pos (by rfl)]
        refine wp_append_lies _ _ _ 23 rfl B 3 i0 (.int .i64 0) 1 8 Try.underlying23 hi hz0 hz1 hz2 rfl (by decide) vW k _ rfl HK.out.rw ⟨p8, 0, none⟩ 1 1 [(.int .i64 x7)] rfl rfl (one_news c8.out) (by simp [Value.oneCell']) (by decide) (by unfold maxLen; omega) (by omega) HK.out.sz _ rfl ?_
        intro g5 cap5 w5 hown5 hgrow5 hl5 hlt5
        have HKd := Lib.hid (HK.out.addW HY7.out hown5 hgrow5 hl5)
        clear HK
        have HK := HKd
        clear HKd c8
        have c18x := Lib.hid (one_kept c18.out hgrow5 n18.out)
        clear c18 n18
        have c18 := c18x
        clear c18x
        clear hown5 hgrow5 hl5 hlt5
        refine hK.out _ _ HK.out.l (fun hHeld => ?_)
        clear hK K
        refine wpAnyH_take (i := 20) (v := ?vu86) (by rw [List.getElem?_toArray]; rfl) (by kernel_rfl) (by kernel_rfl) (by kernel_rfl) ?ku86 (Or.inl ⟨by rfl, ?yu86⟩) hHeld ?ru86
        case ku86 => exact fun c a w h => hP c a _ _ w h
        case yu86 => (intro wz hSw; clear hSw; go_simp; try (with_reducible rfl))
        simp only [Act.put, List.setIfInBounds_toArray, List.set_cons_zero, List.set_cons_succ]
        refine wpAnyH_ready (rs := [19]) (by kernel_rfl) (by simp) ?_
        refine AllReadyH.cons (by rw [List.getElem?_toArray]; rfl) (fun K hK => ?_) AllReadyH.nil
        clear hHeld
        rw [if_pos (by rfl)]
        refine wp_append_lies _ _ _ 23 rfl B 3 i0 (.int .i64 0) 1 8 Try.underlying23 hi hz0 hz1 hz2 rfl (by decide) vV k _ rfl HK.out.rv ⟨p18, 0, none⟩ 1 1 [(.int .i64 x17)] rfl rfl (one_news c18.out) (by simp [Value.oneCell']) (by decide) (by unfold maxLen; omega) (by omega) HK.out.sz _ rfl ?_
        intro g6 cap6 w6 hown6 hgrow6 hl6 hlt6
        have HKd := Lib.hid (HK.out.addV HY17.out hown6 hgrow6 hl6)
        clear HK
        have HK := HKd
        clear HKd c18
        clear hown6 hgrow6 hl6 hlt6
        refine hK.out _ _ HK.out.l (fun hHeld => ?_)
        clear hK K
        refine wpAnyH_ready (rs := [21]) (by kernel_rfl) (by simp) ?_
        refine AllReadyH.cons (by rw [List.getElem?_toArray]; rfl) (fun K hK => ?_) AllReadyH.nil
        have c5 := cell_of_row _ gi 3 _ 26 _ HK.out.box
        have f5 : World.frozen? _ ⟨gi, 3, none⟩ = false := frozen_of_row _ gi 3 _ 26 HK.out.box
        simp at c5
        clear hHeld
        go_simp
        have HKd := Lib.hid (kr_put HK.out 3 (.slice (some ⟨g5, 0, none⟩) (k + 1) cap5) rfl)
        clear HK
        have HK := HKd
        clear HKd
        refine hK.out _ _ HK.out.l (fun hHeld => ?_)
        clear hK K c5 f5
        refine wpAnyH_take (i := 22) (v := ?vu87) (by rw [List.getElem?_toArray]; rfl) (by kernel_rfl) (by kernel_rfl) (by kernel_rfl) ?ku87 (Or.inl ⟨by rfl, ?yu87⟩) hHeld ?ru87
        case ku87 => exact fun c a w h => hP c a _ _ w h
        case yu87 => (intro wz hSw; clear hSw; go_simp; try (with_reducible rfl))
        simp only [Act.put, List.setIfInBounds_toArray, List.set_cons_zero, List.set_cons_succ]
        refine wpAnyH_ready (rs := [23]) (by kernel_rfl) (by simp) ?_
        refine AllReadyH.cons (by rw [List.getElem?_toArray]; rfl) (fun K hK => ?_) AllReadyH.nil
        have c5 := cell_of_row _ gi 4 _ 26 _ HK.out.box
        have f5 : World.frozen? _ ⟨gi, 4, none⟩ = false := frozen_of_row _ gi 4 _ 26 HK.out.box
        simp at c5
        clear hHeld
        go_simp
        have HKd := Lib.hid (kr_put HK.out 4 (.slice (some ⟨g6, 0, none⟩) (k + 1) cap6) rfl)
        clear HK
        have HK := HKd
        clear HKd
        refine hK.out _ _ HK.out.l (fun hHeld => ?_)
        clear hK K c5 f5 hHeld
        refine wpAnyH_done (by kernel_rfl) ?_ _
        exact HRT.out _ _ _ _ _ _ _ _ _ _ _ _ _ _ _ _ _ _ _ _ _ _ _ _ _ _ _ HK.out
  · have c5 : vu1.cell? ⟨gi, 4, none⟩ = some vV := cell_of_row _ gi 4 _ 26 _ HK.out.box
    clear hHeld
    go_simp
    refine hK.out _ _ HK.out.l (fun hHeld => ?_)
    clear hK K c5
    refine wpAnyH_ready (rs := [1, 8, 18]) (by kernel_rfl) (by simp) ?_
    refine AllReadyH.cons (by rw [List.getElem?_toArray]; rfl) (fun K hK => ?_) (AllReadyH.cons (by rw [List.getElem?_toArray]; rfl) (fun K hK => ?_) (AllReadyH.cons (by rw [List.getElem?_toArray]; rfl) (fun K hK => ?_) AllReadyH.nil))
    · have c5 : vu1.cell? ⟨gi, 3, none⟩ = some vW := cell_of_row _ gi 3 _ 26 _ HK.out.box
      clear hHeld
      go_simp
      refine hK.out _ _ HK.out.l (fun hHeld => ?_)
      clear hK K c5
      refine wpAnyH_ready (rs := [8, 18]) (by kernel_rfl) (by simp) ?_
      refine AllReadyH.cons (by rw [List.getElem?_toArray]; rfl) (fun K hK => ?_) (AllReadyH.cons (by rw [List.getElem?_toArray]; rfl) (fun K hK => ?_) AllReadyH.nil)
      · clear hHeld
        go_simp
        have c8 := Lib.hid (one_new vu1 (.int .i64 x7))
        have HKd := Lib.hid (HK.out.alloc (.cells #[(.int .i64 x7)] 3))
        clear HK
        have HK := HKd
        clear HKd
        refine hK.out _ _ HK.out.l (fun hHeld => ?_)
        clear hK K
        generalize (vu1.alloc (.cells #[(.int .i64 x7)] 3)) = vu88 at *
        generalize vu1.heap.size = p8 at *
        refine wpAnyH_ready (rs := [9, 18]) (by kernel_rfl) (by simp) ?_
        refine AllReadyH.cons (by rw [List.getElem?_toArray]; rfl) (fun K hK => ?_) (AllReadyH.cons (by rw [List.getElem?_toArray]; rfl) (fun K hK => ?_) AllReadyH.nil)
        · clear hHeld
          rw [if_pos (by rfl)]
          refine wp_append_lies _ _ _ 23 rfl B 3 i0 (.int .i64 0) 1 8 Try.underlying23 hi hz0 hz1 hz2 rfl (by decide) vW k _ rfl HK.out.rw ⟨p8, 0, none⟩ 1 1 [(.int .i64 x7)] rfl rfl (one_news c8.out) (by simp [Value.oneCell']) (by decide) (by unfold maxLen; omega) (by omega) HK.out.sz _ rfl ?_
          intro g5 cap5 w5 hown5 hgrow5 hl5 hlt5
          have HKd := Lib.hid (HK.out.addW HY7.out hown5 hgrow5 hl5)
          clear HK
          have HK := HKd
          clear HKd c8
          clear hown5 hgrow5 hl5 hlt5
          refine hK.out _ _ HK.out.l (fun hHeld => ?_)
          clear hK K
          refine wpAnyH_take (i := 20) (v := ?vu89) (by rw [List.getElem?_toArray]; rfl) (by kernel_rfl) (by kernel_rfl) (by kernel_rfl) ?ku89 (Or.inl ⟨by rfl, ?yu89⟩) hHeld ?ru89
          case ku89 => exact fun c a w h => hP c a _ _ w h
          case yu89 => (intro wz hSw; clear hSw; go_simp; try (with_reducible rfl))
          simp only [Act.put, List.setIfInBounds_toArray, List.set_cons_zero, List.set_cons_succ]
          refine wpAnyH_ready (rs := [18]) (by kernel_rfl) (by simp) ?_
          refine AllReadyH.cons (by rw [List.getElem?_toArray]; rfl) (fun K hK => ?_) AllReadyH.nil
          clear hHeld
          go_simp
          have c18 := Lib.hid (one_new w5 (.int .i64 x17))
          have HKd := Lib.hid (HK.out.alloc (.cells #[(.int .i64 x17)] 3))
          clear HK
          have HK := HKd
          clear HKd
          refine hK.out _ _ HK.out.l (fun hHeld => ?_)
          clear hK K
          generalize (w5.alloc (.cells #[(.int .i64 x17)] 3)) = vu90 at *
          generalize w5.heap.size = p18 at *
          refine wpAnyH_ready (rs := [19]) (by kernel_rfl) (by simp) ?_
          refine AllReadyH.cons (by rw [List.getElem?_toArray]; rfl) (fun K hK => ?_) AllReadyH.nil
          clear hHeld
          rw [if_pos (by rfl)]
          refine wp_append_lies _ _ _ 23 rfl B 3 i0 (.int .i64 0) 1 8 Try.underlying23 hi hz0 hz1 hz2 rfl (by decide) vV k _ rfl HK.out.rv ⟨p18, 0, none⟩ 1 1 [(.int .i64 x17)] rfl rfl (one_news c18.out) (by simp [Value.oneCell']) (by decide) (by unfold maxLen; omega) (by omega) HK.out.sz _ rfl ?_
          intro g6 cap6 w6 hown6 hgrow6 hl6 hlt6
          have HKd := Lib.hid (HK.out.addV HY17.out hown6 hgrow6 hl6)
          clear HK
          have HK := HKd
          clear HKd c18
          clear hown6 hgrow6 hl6 hlt6
          refine hK.out _ _ HK.out.l (fun hHeld => ?_)
          clear hK K
          refine wpAnyH_ready (rs := [21]) (by kernel_rfl) (by simp) ?_
          refine AllReadyH.cons (by rw [List.getElem?_toArray]; rfl) (fun K hK => ?_) AllReadyH.nil
          have c5 := cell_of_row _ gi 3 _ 26 _ HK.out.box
          have f5 : World.frozen? _ ⟨gi, 3, none⟩ = false := frozen_of_row _ gi 3 _ 26 HK.out.box
          simp at c5
          clear hHeld
          go_simp
          have HKd := Lib.hid (kr_put HK.out 3 (.slice (some ⟨g5, 0, none⟩) (k + 1) cap5) rfl)
          clear HK
          have HK := HKd
          clear HKd
          refine hK.out _ _ HK.out.l (fun hHeld => ?_)
          clear hK K c5 f5
          refine wpAnyH_take (i := 22) (v := ?vu91) (by rw [List.getElem?_toArray]; rfl) (by kernel_rfl) (by kernel_rfl) (by kernel_rfl) ?ku91 (Or.inl ⟨by rfl, ?yu91⟩) hHeld ?ru91
          case ku91 => exact fun c a w h => hP c a _ _ w h
          case yu91 => (intro wz hSw; clear hSw; go_simp; try (with_reducible rfl))
          simp only [Act.put, List.setIfInBounds_toArray, List.set_cons_zero, List.set_cons_succ]
          refine wpAnyH_ready (rs := [23]) (by kernel_rfl) (by simp) ?_
          refine AllReadyH.cons (by rw [List.getElem?_toArray]; rfl) (fun K hK => ?_) AllReadyH.nil
          have c5 := cell_of_row _ gi 4 _ 26 _ HK.out.box
          have f5 : World.frozen? _ ⟨gi, 4, none⟩ = false := frozen_of_row _ gi 4 _ 26 HK.out.box
          simp at c5
          clear hHeld
          go_simp
          have HKd := Lib.hid (kr_put HK.out 4 (.slice (some ⟨g6, 0, none⟩) (k + 1) cap6) rfl)
          clear HK
          have HK := HKd
          clear HKd
          refine hK.out _ _ HK.out.l (fun hHeld => ?_)
          clear hK K c5 f5 hHeld
          refine wpAnyH_done (by kernel_rfl) ?_ _
          exact HRT.out _ _ _ _ _ _ _ _ _ _ _ _ _ _ _ _ _ _ _ _ _ _ _ _ _ _ _ HK.out
        · clear hHeld
          go_simp
          have n18 := Lib.hid (row_fresh HK.out.rw)
          have c18 := Lib.hid (one_new vu88 (.int .i64 x17))
          have c8x := Lib.hid (one_alloc c8.out (.cells #[(.int .i64 x17)] 3))
          clear c8
          have c8 := c8x
          clear c8x
          have HKd := Lib.hid (HK.out.alloc (.cells #[(.int .i64 x17)] 3))
          clear HK
          have HK := HKd
          clear HKd
          refine hK.out _ _ HK.out.l (fun hHeld => ?_)
          clear hK K
          generalize (vu88.alloc (.cells #[(.int .i64 x17)] 3)) = vu92 at *
          generalize vu88.heap.size = p18 at *
          refine wpAnyH_ready (rs := [9]) (by kernel_rfl) (by simp) ?_
          refine AllReadyH.cons (by rw [List.getElem?_toArray]; rfl) (fun K hK => ?_) AllReadyH.nil
          clear hHeld
          rw [if_pos (by rfl)]
          refine wp_append_lies _ _ _ 23 rfl B 3 i0 (.int .i64 0) 1 8 Try.underlying23 hi hz0 hz1 hz2 rfl (by decide) vW k _ rfl HK.out.rw ⟨p8, 0, none⟩ 1 1 [(.int .i64 x7)] rfl rfl (one_news c8.out) (by simp [Value.oneCell']) (by decide) (by unfold maxLen; omega) (by omega) HK.out.sz _ rfl ?_
          intro g5 cap5 w5 hown5 hgrow5 hl5 hlt5
          have HKd := Lib.hid (HK.out.addW HY7.out hown5 hgrow5 hl5)
          clear HK
          have HK := HKd
          clear HKd c8
          have c18x := Lib.hid (one_kept c18.out hgrow5 n18.out)
          clear c18 n18
          have c18 := c18x
          clear c18x
          clear hown5 hgrow5 hl5 hlt5
          refine hK.out _ _ HK.out.l (fun hHeld => ?_)
          clear hK K
          refine wpAnyH_take (i := 20) (v := ?vu93) (by rw [List.getElem?_toArray]; rfl) (by kernel_rfl) (by kernel_rfl) (by kernel_rfl) ?ku93 (Or.inl ⟨by rfl, ?yu93⟩) hHeld ?ru93
          case ku93 => exact fun c a w h => hP c a _ _ w h
          case yu93 => (intro wz hSw; clear hSw; go_simp; try (with_reducible rfl))
          simp only [Act.put, List.setIfInBounds_toArray, List.set_cons_zero, List.set_cons_succ]
          refine wpAnyH_ready (rs := [19]) (by kernel_rfl) (by simp) ?_
          refine AllReadyH.cons (by rw [List.getElem?_toArray]; rfl) (fun K hK => ?_) AllReadyH.nil
          clear hHeld
          rw [if_pos (by rfl)]
          refine wp_append_lies _ _ _ 23 rfl B 3 i0 (.int .i64 0) 1 8 Try.underlying23 hi hz0 hz1 hz2 rfl (by decide) vV k _ rfl HK.out.rv ⟨p18, 0, none⟩ 1 1 [(.int .i64 x17)] rfl rfl (one_news c18.out) (by simp [Value.oneCell']) (by decide) (by unfold maxLen; omega) (by omega) HK.out.sz _ rfl ?_
          intro g6 cap6 w6 hown6 hgrow6 hl6 hlt6
          have HKd := Lib.hid (HK.out.addV HY17.out hown6 hgrow6 hl6)
          clear HK
          have HK := HKd
          clear HKd c18
          clear hown6 hgrow6 hl6 hlt6
          refine hK.out _ _ HK.out.l (fun hHeld => ?_)
          clear hK K
          refine wpAnyH_ready (rs := [21]) (by kernel_rfl) (by simp) ?_
          refine AllReadyH.cons (by rw [List.getElem?_toArray]; rfl) (fun K hK => ?_) AllReadyH.nil
          have c5 := cell_of_row _ gi 3 _ 26 _ HK.out.box
          have f5 : World.frozen? _ ⟨gi, 3, none⟩ = false := frozen_of_row _ gi 3 _ 26 HK.out.box
          simp at c5
          clear hHeld
          go_simp
          have HKd := Lib.hid (kr_put HK.out 3 (.slice (some ⟨g5, 0, none⟩) (k + 1) cap5) rfl)
          clear HK
          have HK := HKd
          clear HKd
          refine hK.out _ _ HK.out.l (fun hHeld => ?_)
          clear hK K c5 f5
          refine wpAnyH_take (i := 22) (v := ?vu94) (by rw [List.getElem?_toArray]; rfl) (by kernel_rfl) (by kernel_rfl) (by kernel_rfl) ?ku94 (Or.inl ⟨by rfl, ?yu94⟩) hHeld ?ru94
          case ku94 => exact fun c a w h => hP c a _ _ w h
          case yu94 => (intro wz hSw; clear hSw; go_simp; try (with_reducible rfl))
          simp only [Act.put, List.setIfInBounds_toArray, List.set_cons_zero, List.set_cons_succ]
          refine wpAnyH_ready (rs := [23]) (by kernel_rfl) (by simp) ?_
          refine AllReadyH.cons (by rw [List.getElem?_toArray]; rfl) (fun K hK => ?_) AllReadyH.nil
          have c5 := cell_of_row _ gi 4 _ 26 _ HK.out.box
          have f5 : World.frozen? _ ⟨gi, 4, none⟩ = false := frozen_of_row _ gi 4 _ 26 HK.out.box
          simp at c5
          clear hHeld
          go_simp
          have HKd := Lib.hid (kr_put HK.out 4 (.slice (some ⟨g6, 0, none⟩) (k + 1) cap6) rfl)
          clear HK
          have HK := HKd
          clear HKd
          refine hK.out _ _ HK.out.l (fun hHeld => ?_)
          clear hK K c5 f5 hHeld
          refine wpAnyH_done (by kernel_rfl) ?_ _
          exact HRT.out _ _ _ _ _ _ _ _ _ _ _ _ _ _ _ _ _ _ _ _ _ _ _ _ _ _ _ HK.out
      · clear hHeld
        go_simp
        have n18 := Lib.hid (row_fresh HK.out.rw)
        have c18 := Lib.hid (one_new vu1 (.int .i64 x17))
        have HKd := Lib.hid (HK.out.alloc (.cells #[(.int .i64 x17)] 3))
        clear HK
        have HK := HKd
        clear HKd
        refine hK.out _ _ HK.out.l (fun hHeld => ?_)
        clear hK K
        generalize (vu1.alloc (.cells #[(.int .i64 x17)] 3)) = vu95 at *
        generalize vu1.heap.size = p18 at *
        refine wpAnyH_ready (rs := [8]) (by kernel_rfl) (by simp) ?_
        refine AllReadyH.cons (by rw [List.getElem?_toArray]; rfl) (fun K hK => ?_) AllReadyH.nil
        clear hHeld
        go_simp
        have c8 := Lib.hid (one_new vu95 (.int .i64 x7))
        have c18x := Lib.hid (one_alloc c18.out (.cells #[(.int .i64 x7)] 3))
        clear c18
        have c18 := c18x
        clear c18x
        have HKd := Lib.hid (HK.out.alloc (.cells #[(.int .i64 x7)] 3))
        clear HK
        have HK := HKd
        clear HKd
        refine hK.out _ _ HK.out.l (fun hHeld => ?_)
        clear hK K
        generalize (vu95.alloc (.cells #[(.int .i64 x7)] 3)) = vu96 at *
        generalize vu95.heap.size = p8 at *
        refine wpAnyH_ready (rs := [9]) (by kernel_rfl) (by simp) ?_
        refine AllReadyH.cons (by rw [List.getElem?_toArray]; rfl) (fun K hK => ?_) AllReadyH.nil
        clear hHeld
        rw [if_pos (by rfl)]
        refine wp_append_lies _ _ _ 23 rfl B 3 i0 (.int .i64 0) 1 8 Try.underlying23 hi hz0 hz1 hz2 rfl (by decide) vW k _ rfl HK.out.rw ⟨p8, 0, none⟩ 1 1 [(.int .i64 x7)] rfl rfl (one_news c8.out) (by simp [Value.oneCell']) (by decide) (by unfold maxLen; omega) (by omega) HK.out.sz _ rfl ?_
        intro g5 cap5 w5 hown5 hgrow5 hl5 hlt5
        have HKd := Lib.hid (HK.out.addW HY7.out hown5 hgrow5 hl5)
        clear HK
        have HK := HKd
        clear HKd c8
        have c18x := Lib.hid (one_kept c18.out hgrow5 n18.out)
        clear c18 n18
        have c18 := c18x
        clear c18x
        clear hown5 hgrow5 hl5 hlt5
        refine hK.out _ _ HK.out.l (fun hHeld => ?_)
        clear hK K
        refine wpAnyH_take (i := 20) (v := ?vu97) (by rw [List.getElem?_toArray]; rfl) (by kernel_rfl) (by kernel_rfl) (by kernel_rfl) ?ku97 (Or.inl ⟨by rfl, ?yu97⟩) hHeld ?ru97
        case ku97 => exact fun c a w h => hP c a _ _ w h
        case yu97 => (intro wz hSw; clear hSw; go_simp; try (with_reducible rfl))
        simp only [Act.put, List.setIfInBounds_toArray, List.set_cons_zero, List.set_cons_succ]
        refine wpAnyH_ready (rs := [19]) (by kernel_rfl) (by simp) ?_
        refine AllReadyH.cons (by rw [List.getElem?_toArray]; rfl) (fun K hK => ?_) AllReadyH.nil
        clear hHeld
        rw [if_pos (by rfl)]
        refine wp_append_lies _ _ _ 23 rfl B 3 i0 (.int .i64 0) 1 8 Try.underlying23 hi hz0 hz1 hz2 rfl (by decide) vV k _ rfl HK.out.rv ⟨p18, 0, none⟩ 1 1 [(.int .i64 x17)] rfl rfl (one_news c18.out) (by simp [Value.oneCell']) (by decide) (by unfold maxLen; omega) (by omega) HK.out.sz _ rfl ?_
        intro g6 cap6 w6 hown6 hgrow6 hl6 hlt6
        have HKd := Lib.hid (HK.out.addV HY17.out hown6 hgrow6 hl6)
        clear HK
        have HK := HKd
        clear HKd c18
        clear hown6 hgrow6 hl6 hlt6
        refine hK.out _ _ HK.out.l (fun hHeld => ?_)
        clear hK K
        refine wpAnyH_ready (rs := [21]) (by kernel_rfl) (by simp) ?_
        refine AllReadyH.cons (by rw [List.getElem?_toArray]; rfl) (fun K hK => ?_) AllReadyH.nil
        have c5 := cell_of_row _ gi 3 _ 26 _ HK.out.box
        have f5 : World.frozen? _ ⟨gi, 3, none⟩ = false := frozen_of_row _ gi 3 _ 26 HK.out.box
        simp at c5
        clear hHeld
        go_simp
        have HKd := Lib.hid (kr_put HK.out 3 (.slice (some ⟨g5, 0, none⟩) (k + 1) cap5) rfl)
        clear HK
        have HK := HKd
        clear HKd
        refine hK.out _ _ HK.out.l (fun hHeld => ?_)
        clear hK K c5 f5
        refine wpAnyH_take (i := 22) (v := ?vu98) (by rw [List.getElem?_toArray]; rfl) (by kernel_rfl) (by kernel_rfl) (by kernel_rfl) ?ku98 (Or.inl ⟨by rfl, ?yu98⟩) hHeld ?ru98
        case ku98 => exact fun c a w h => hP c a _ _ w h
        case yu98 => (intro wz hSw; clear hSw; go_simp; try (with_reducible rfl))
        simp only [Act.put, List.setIfInBounds_toArray, List.set_cons_zero, List.set_cons_succ]
        refine wpAnyH_ready (rs := [23]) (by kernel_rfl) (by simp) ?_
        refine AllReadyH.cons (by rw [List.getElem?_toArray]; rfl) (fun K hK => ?_) AllReadyH.nil
        have c5 := cell_of_row _ gi 4 _ 26 _ HK.out.box
        have f5 : World.frozen? _ ⟨gi, 4, none⟩ = false := frozen_of_row _ gi 4 _ 26 HK.out.box
        simp at c5
        clear hHeld
        go_simp
        have HKd := Lib.hid (kr_put HK.out 4 (.slice (some ⟨g6, 0, none⟩) (k + 1) cap6) rfl)
        clear HK
        have HK := HKd
        clear HKd
        refine hK.out _ _ HK.out.l (fun hHeld => ?_)
        clear hK K c5 f5 hHeld
        refine wpAnyH_done (by kernel_rfl) ?_ _
        exact HRT.out _ _ _ _ _ _ _ _ _ _ _ _ _ _ _ _ _ _ _ _ _ _ _ _ _ _ _ HK.out
    · clear hHeld
      go_simp
      have c8 := Lib.hid (one_new vu1 (.int .i64 x7))
      have HKd := Lib.hid (HK.out.alloc (.cells #[(.int .i64 x7)] 3))
      clear HK
      have HK := HKd
      clear HKd
      refine hK.out _ _ HK.out.l (fun hHeld => ?_)
      clear hK K
      generalize (vu1.alloc (.cells #[(.int .i64 x7)] 3)) = vu99 at *
      generalize vu1.heap.size = p8 at *
      refine wpAnyH_ready (rs := [1, 18]) (by kernel_rfl) (by simp) ?_
      refine AllReadyH.cons (by rw [List.getElem?_toArray]; rfl) (fun K hK => ?_) (AllReadyH.cons (by rw [List.getElem?_toArray]; rfl) (fun K hK => ?_) AllReadyH.nil)
      · have c5 : vu99.cell? ⟨gi, 3, none⟩ = some vW := cell_of_row _ gi 3 _ 26 _ HK.out.box
        clear hHeld
        go_simp
        refine hK.out _ _ HK.out.l (fun hHeld => ?_)
        clear hK K c5
        refine wpAnyH_ready (rs := [9, 18]) (by kernel_rfl) (by simp) ?_
        refine AllReadyH.cons (by rw [List.getElem?_toArray]; rfl) (fun K hK => ?_) (AllReadyH.cons (by rw [List.getElem?_toArray]; rfl) (fun K hK => ?_) AllReadyH.nil)
        · clear hHeld
          rw [if_pos (by rfl)]
          refine wp_append_lies _ _ _ 23 rfl B 3 i0 (.int .i64 0) 1 8 Try.underlying23 hi hz0 hz1 hz2 rfl (by decide) vW k _ rfl HK.out.rw ⟨p8, 0, none⟩ 1 1 [(.int .i64 x7)] rfl rfl (one_news c8.out) (by simp [Value.oneCell']) (by decide) (by unfold maxLen; omega) (by omega) HK.out.sz _ rfl ?_
          intro g5 cap5 w5 hown5 hgrow5 hl5 hlt5
          have HKd := Lib.hid (HK.out.addW HY7.out hown5 hgrow5 hl5)
          clear HK
          have HK := HKd
          clear HKd c8
          clear hown5 hgrow5 hl5 hlt5
          refine hK.out _ _ HK.out.l (fun hHeld => ?_)
          clear hK K
          refine wpAnyH_take (i := 20) (v := ?vu100) (by rw [List.getElem?_toArray]; rfl) (by kernel_rfl) (by kernel_rfl) (by kernel_rfl) ?ku100 (Or.inl ⟨by rfl, ?yu100⟩) hHeld ?ru100
          case ku100 => exact fun c a w h => hP c a _ _ w h
          case yu100 => (intro wz hSw; clear hSw; go_simp; try (with_reducible rfl))
          simp only [Act.put, List.setIfInBounds_toArray, List.set_cons_zero, List.set_cons_succ]
          refine wpAnyH_ready (rs := [18]) (by kernel_rfl) (by simp) ?_
          refine AllReadyH.cons (by rw [List.getElem?_toArray]; rfl) (fun K hK => ?_) AllReadyH.nil
          clear hHeld
          go_simp
          have c18 := Lib.hid (one_new w5 (.int .i64 x17))
          have HKd := Lib.hid (HK.out.alloc (.cells #[(.int .i64 x17)] 3))
          clear HK
          have HK := HKd
          clear HKd
          refine hK.out _ _ HK.out.l (fun hHeld => ?_)
          clear hK K
          generalize (w5.alloc (.cells #[(.int .i64 x17)] 3)) = vu101 at *
          generalize w5.heap.size = p18 at *
          refine wpAnyH_ready (rs := [19]) (by kernel_rfl) (by simp) ?_
          refine AllReadyH.cons (by rw [List.getElem?_toArray]; rfl) (fun K hK => ?_) AllReadyH.nil
          clear hHeld
          rw [if_pos (by rfl)]
          refine wp_append_lies _ _ _ 23 rfl B 3 i0 (.int .i64 0) 1 8 Try.underlying23 hi hz0 hz1 hz2 rfl (by decide) vV k _ rfl HK.out.rv ⟨p18, 0, none⟩ 1 1 [(.int .i64 x17)] rfl rfl (one_news c18.out) (by simp [Value.oneCell']) (by decide) (by unfold maxLen; omega) (by omega) HK.out.sz _ rfl ?_
          intro g6 cap6 w6 hown6 hgrow6 hl6 hlt6
          have HKd := Lib.hid (HK.out.addV HY17.out hown6 hgrow6 hl6)
          clear HK
          have HK := HKd
          clear HKd c18
          clear hown6 hgrow6 hl6 hlt6
          refine hK.out _ _ HK.out.l (fun hHeld => ?_)
          clear hK K
          refine wpAnyH_ready (rs := [21]) (by kernel_rfl) (by simp) ?_
          refine AllReadyH.cons (by rw [List.getElem?_toArray]; rfl) (fun K hK => ?_) AllReadyH.nil
          have c5 := cell_of_row _ gi 3 _ 26 _ HK.out.box
          have f5 : World.frozen? _ ⟨gi, 3, none⟩ = false := frozen_of_row _ gi 3 _ 26 HK.out.box
          simp at c5
          clear hHeld
          go_simp
          have HKd := Lib.hid (kr_put HK.out 3 (.slice (some ⟨g5, 0, none⟩) (k + 1) cap5) rfl)
          clear HK
          have HK := HKd
          clear HKd
          refine hK.out _ _ HK.out.l (fun hHeld => ?_)
          clear hK K c5 f5
          refine wpAnyH_take (i := 22) (v := ?vu102) (by rw [List.getElem?_toArray]; rfl) (by kernel_rfl) (by kernel_rfl) (by kernel_rfl) ?ku102 (Or.inl ⟨by rfl, ?yu102⟩) hHeld ?ru102
          case ku102 => exact fun c a w h => hP c a _ _ w h
          case yu102 => (intro wz hSw; clear hSw; go_simp; try (with_reducible rfl))
          simp only [Act.put, List.setIfInBounds_toArray, List.set_cons_zero, List.set_cons_succ]
          refine wpAnyH_ready (rs := [23]) (by kernel_rfl) (by simp) ?_
          refine AllReadyH.cons (by rw [List.getElem?_toArray]; rfl) (fun K hK => ?_) AllReadyH.nil
          have c5 := cell_of_row _ gi 4 _ 26 _ HK.out.box
          have f5 : World.frozen? _ ⟨gi, 4, none⟩ = false := frozen_of_row _ gi 4 _ 26 HK.out.box
          simp at c5
          clear hHeld
          go_simp
          have HKd := Lib.hid (kr_put HK.out 4 (.slice (some ⟨g6, 0, none⟩) (k + 1) cap6) rfl)
          clear HK
          have HK := HKd
          clear HKd
          refine hK.out _ _ HK.out.l (fun hHeld => ?_)
          clear hK K c5 f5 hHeld
          refine wpAnyH_done (by kernel_rfl) ?_ _
          exact HRT.out _ _ _ _ _ _ _ _ _ _ _ _ _ _ _ _ _ _ _ _ _ _ _ _ _ _ _ HK.out
        · clear hHeld
          go_simp
          have n18 := Lib.hid (row_fresh HK.out.rw)
          have c18 := Lib.hid (one_new vu99 (.int .i64 x17))
          have c8x := Lib.hid (one_alloc c8.out (.cells #[(.int .i64 x17)] 3))
          clear c8
          have c8 := c8x
          clear c8x
          have HKd := Lib.hid (HK.out.alloc (.cells #[(.int .i64 x17)] 3))
          clear HK
          have HK := HKd
          clear HKd
          refine hK.out _ _ HK.out.l (fun hHeld => ?_)
          clear hK K
          generalize (vu99.alloc (.cells #[(.int .i64 x17)] 3)) = vu103 at *
          generalize vu99.heap.size = p18 at *
          refine wpAnyH_ready (rs := [9]) (by kernel_rfl) (by simp) ?_
          refine AllReadyH.cons (by rw [List.getElem?_toArray]; rfl) (fun K hK => ?_) AllReadyH.nil
          clear hHeld
          rw [if_pos (by rfl)]
          refine wp_append_lies _ _ _ 23 rfl B 3 i0 (.int .i64 0) 1 8 Try.underlying23 hi hz0 hz1 hz2 rfl (by decide) vW k _ rfl HK.out.rw ⟨p8, 0, none⟩ 1 1 [(.int .i64 x7)] rfl rfl (one_news c8.out) (by simp [Value.oneCell']) (by decide) (by unfold maxLen; omega) (by omega) HK.out.sz _ rfl ?_
          intro g5 cap5 w5 hown5 hgrow5 hl5 hlt5
          have HKd := Lib.hid (HK.out.addW HY7.out hown5 hgrow5 hl5)
          clear HK
          have HK := HKd
          clear HKd c8
          have c18x := Lib.hid (one_kept c18.out hgrow5 n18.out)
          clear c18 n18
          have c18 := c18x
          clear c18x
          clear hown5 hgrow5 hl5 hlt5
          refine hK.out _ _ HK.out.l (fun hHeld => ?_)
          clear hK K
          refine wpAnyH_take (i := 20) (v := ?vu104) (by rw [List.getElem?_toArray]; rfl) (by kernel_rfl) (by kernel_rfl) (by kernel_rfl) ?ku104 (Or.inl ⟨by rfl, ?yu104⟩) hHeld ?ru104
          case ku104 => exact fun c a w h => hP c a _ _ w h
          case yu104 => (intro wz hSw; clear hSw; go_simp; try (with_reducible rfl))
          simp only [Act.put, List.setIfInBounds_toArray, List.set_cons_zero, List.set_cons_succ]
          refine wpAnyH_ready (rs := [19]) (by kernel_rfl) (by simp) ?_
          refine AllReadyH.cons (by rw [List.getElem?_toArray]; rfl) (fun K hK => ?_) AllReadyH.nil
          clear hHeld
          rw [if_pos (by rfl)]
          refine wp_append_lies _ _ _ 23 rfl B 3 i0 (.int .i64 0) 1 8 Try.underlying23 hi hz0 hz1 hz2 rfl (by decide) vV k _ rfl HK.out.rv ⟨p18, 0, none⟩ 1 1 [(.int .i64 x17)] rfl rfl (one_news c18.out) (by simp [Value.oneCell']) (by decide) (by unfold maxLen; omega) (by omega) HK.out.sz _ rfl ?_
          intro g6 cap6 w6 hown6 hgrow6 hl6 hlt6
          have HKd := Lib.hid (HK.out.addV HY17.out hown6 hgrow6 hl6)
          clear HK
          have HK := HKd
          clear HKd c18
          clear hown6 hgrow6 hl6 hlt6
          refine hK.out _ _ HK.out.l (fun hHeld => ?_)
          clear hK K
          refine wpAnyH_ready (rs := [21]) (by kernel_rfl) (by simp) ?_
          refine AllReadyH.cons (by rw [List.getElem?_toArray]; rfl) (fun K hK => ?_) AllReadyH.nil
          have c5 := cell_of_row _ gi 3 _ 26 _ HK.out.box
          have f5 : World.frozen? _ ⟨gi, 3, none⟩ = false := frozen_of_row _ gi 3 _ 26 HK.out.box
          simp at c5
          clear hHeld
          go_simp
          have HKd := Lib.hid (kr_put HK.out 3 (.slice (some ⟨g5, 0, none⟩) (k + 1) cap5) rfl)
          clear HK
          have HK := HKd
          clear HKd
          refine hK.out _ _ HK.out.l (fun hHeld => ?_)
          clear hK K c5 f5
          refine wpAnyH_take (i := 22) (v := ?vu105) (by rw [List.getElem?_toArray]; rfl) (by kernel_rfl) (by kernel_rfl) (by kernel_rfl) ?ku105 (Or.inl ⟨by rfl, ?yu105⟩) hHeld ?ru105
          case ku105 => exact fun c a w h => hP c a _ _ w h
          case yu105 => (intro wz hSw; clear hSw; go_simp; try (with_reducible rfl))
          simp only [Act.put, List.setIfInBounds_toArray, List.set_cons_zero, List.set_cons_succ]
          refine wpAnyH_ready (rs := [23]) (by kernel_rfl) (by simp) ?_
          refine AllReadyH.cons (by rw [List.getElem?_toArray]; rfl) (fun K hK => ?_) AllReadyH.nil
          have c5 := cell_of_row _ gi 4 _ 26 _ HK.out.box
          have f5 : World.frozen? _ ⟨gi, 4, none⟩ = false := frozen_of_row _ gi 4 _ 26 HK.out.box
          simp at c5
          clear hHeld
          go_simp
          have HKd := Lib.hid (kr_put HK.out 4 (.slice (some ⟨g6, 0, none⟩) (k + 1) cap6) rfl)
          clear HK
          have HK := HKd
          clear HKd
          refine hK.out _ _ HK.out.l (fun hHeld => ?_)
          clear hK K c5 f5 hHeld
          refine wpAnyH_done (by kernel_rfl) ?_ _
          exact HRT.out _ _ _ _ _ _ _ _ _ _ _ _ _ _ _ _ _ _ _ _ _ _ _ _ _ _ _ HK.out
      · clear hHeld
        go_simp
        have n18 := Lib.hid (row_fresh HK.out.rw)
        have c18 := Lib.hid (one_new vu99 (.int .i64 x17))
        have c8x := Lib.hid (one_alloc c8.out (.cells #[(.int .i64 x17)] 3))
        clear c8
        have c8 := c8x
        clear c8x
        have HKd := Lib.hid (HK.out.alloc (.cells #[(.int .i64 x17)] 3))
        clear HK
        have HK := HKd
        clear HKd
        refine hK.out _ _ HK.out.l (fun hHeld => ?_)
        clear hK K
        generalize (vu99.alloc (.cells #[(.int .i64 x17)] 3)) = vu106 at *
        generalize vu99.heap.size = p18 at *
        refine wpAnyH_ready (rs := [1]) (by kernel_rfl) (by simp) ?_
        refine AllReadyH.cons (by rw [List.getElem?_toArray]; rfl) (fun K hK => ?_) AllReadyH.nil
        have c5 : vu106.cell? ⟨gi, 3, none⟩ = some vW := cell_of_row _ gi 3 _ 26 _ HK.out.box
        clear hHeld
        go_simp
        refine hK.out _ _ HK.out.l (fun hHeld => ?_)
        clear hK K c5
        refine wpAnyH_ready (rs := [9]) (by kernel_rfl) (by simp) ?_
        refine AllReadyH.cons (by rw [List.getElem?_toArray]; rfl) (fun K hK => ?_) AllReadyH.nil
        clear hHeld
        rw [if_pos (by rfl)]
        refine wp_append_lies _ _ _ 23 rfl B 3 i0 (.int .i64 0) 1 8 Try.underlying23 hi hz0 hz1 hz2 rfl (by decide) vW k _ rfl HK.out.rw ⟨p8, 0, none⟩ 1 1 [(.int .i64 x7)] rfl rfl (one_news c8.out) (by simp [Value.oneCell']) (by decide) (by unfold maxLen; omega) (by omega) HK.out.sz _ rfl ?_
        intro g5 cap5 w5 hown5 hgrow5 hl5 hlt5
        have HKd := Lib.hid (HK.out.addW HY7.out hown5 hgrow5 hl5)
        clear HK
        have HK := HKd
        clear HKd c8
        have c18x := Lib.hid (one_kept c18.out hgrow5 n18.out)
        clear c18 n18
        have c18 := c18x
        clear c18x
        clear hown5 hgrow5 hl5 hlt5
        refine hK.out _ _ HK.out.l (fun hHeld => ?_)
        clear hK K
        refine wpAnyH_take (i := 20) (v := ?vu107) (by rw [List.getElem?_toArray]; rfl) (by kernel_rfl) (by kernel_rfl) (by kernel_rfl) ?ku107 (Or.inl ⟨by rfl, ?yu107⟩) hHeld ?ru107
        case ku107 => exact fun c a w h => hP c a _ _ w h
        case yu107 => (intro wz hSw; clear hSw; go_simp; try (with_reducible rfl))
        simp only [Act.put, List.setIfInBounds_toArray, List.set_cons_zero, List.set_cons_succ]
        refine wpAnyH_ready (rs := [19]) (by kernel_rfl) (by simp) ?_
        refine AllReadyH.cons (by rw [List.getElem?_toArray]; rfl) (fun K hK => ?_) AllReadyH.nil
        clear hHeld
        rw [if_pos (by rfl)]
        refine wp_append_lies _ _ _ 23 rfl B 3 i0 (.int .i64 0) 1 8 Try.underlying23 hi hz0 hz1 hz2 rfl (by decide) vV k _ rfl HK.out.rv ⟨p18, 0, none⟩ 1 1 [(.int .i64 x17)] rfl rfl (one_news c18.out) (by simp [Value.oneCell']) (by decide) (by unfold maxLen; omega) (by omega) HK.out.sz _ rfl ?_
        intro g6 cap6 w6 hown6 hgrow6 hl6 hlt6
        have HKd := Lib.hid (HK.out.addV HY17.out hown6 hgrow6 hl6)
        clear HK
        have HK := HKd
        clear HKd c18
        clear hown6 hgrow6 hl6 hlt6
        refine hK.out _ _ HK.out.l (fun hHeld => ?_)
        clear hK K
        refine wpAnyH_ready (rs := [21]) (by kernel_rfl) (by simp) ?_
        refine AllReadyH.cons (by rw [List.getElem?_toArray]; rfl) (fun K hK => ?_) AllReadyH.nil
        have c5 := cell_of_row _ gi 3 _ 26 _ HK.out.box
        have f5 : World.frozen? _ ⟨gi, 3, none⟩ = false := frozen_of_row _ gi 3 _ 26 HK.out.box
        simp at c5
        clear hHeld
        go_simp
        have HKd := Lib.hid (kr_put HK.out 3 (.slice (some ⟨g5, 0, none⟩) (k + 1) cap5) rfl)
        clear HK
        have HK := HKd
        clear HKd
        refine hK.out _ _ HK.out.l (fun hHeld => ?_)
        clear hK K c5 f5
        refine wpAnyH_take (i := 22) (v := ?vu108) (by rw [List.getElem?_toArray]; rfl) (by kernel_rfl) (by kernel_rfl) (by kernel_rfl) ?ku108 (Or.inl ⟨by rfl, ?yu108⟩) hHeld ?ru108
        case ku108 => exact fun c a w h => hP c a _ _ w h
        case yu108 => (intro wz hSw; clear hSw; go_simp; try (with_reducible rfl))
        simp only [Act.put, List.setIfInBounds_toArray, List.set_cons_zero, List.set_cons_succ]
        refine wpAnyH_ready (rs := [23]) (by kernel_rfl) (by simp) ?_
        refine AllReadyH.cons (by rw [List.getElem?_toArray]; rfl) (fun K hK => ?_) AllReadyH.nil
        have c5 := cell_of_row _ gi 4 _ 26 _ HK.out.box
        have f5 : World.frozen? _ ⟨gi, 4, none⟩ = false := frozen_of_row _ gi 4 _ 26 HK.out.box
        simp at c5
        clear hHeld
        go_simp
        have HKd := Lib.hid (kr_put HK.out 4 (.slice (some ⟨g6, 0, none⟩) (k + 1) cap6) rfl)
        clear HK
        have HK := HKd
        clear HKd
        refine hK.out _ _ HK.out.l (fun hHeld => ?_)
        clear hK K c5 f5 hHeld
        refine wpAnyH_done (by kernel_rfl) ?_ _
        exact HRT.out _ _ _ _ _ _ _ _ _ _ _ _ _ _ _ _ _ _ _ _ _ _ _ _ _ _ _ HK.out
    · clear hHeld
      go_simp
      have n18 := Lib.hid (row_fresh HK.out.rw)
      have c18 := Lib.hid (one_new vu1 (.int .i64 x17))
      have HKd := Lib.hid (HK.out.alloc (.cells #[(.int .i64 x17)] 3))
      clear HK
      have HK := HKd
      clear HKd
      refine hK.out _ _ HK.out.l (fun hHeld => ?_)
      clear hK K
      generalize (vu1.alloc (.cells #[(.int .i64 x17)] 3)) = vu109 at *
      generalize vu1.heap.size = p18 at *
      refine wpAnyH_ready (rs := [1, 8]) (by kernel_rfl) (by simp) ?_
      refine AllReadyH.cons (by rw [List.getElem?_toArray]; rfl) (fun K hK => ?_) (AllReadyH.cons (by rw [List.getElem?_toArray]; rfl) (fun K hK => ?_) AllReadyH.nil)
      · have c5 : vu109.cell? ⟨gi, 3, none⟩ = some vW := cell_of_row _ gi 3 _ 26 _ HK.out.box
        clear hHeld
        go_simp
        refine hK.out _ _ HK.out.l (fun hHeld => ?_)
        clear hK K c5
        refine wpAnyH_ready (rs := [8]) (by kernel_rfl) (by simp) ?_
        refine AllReadyH.cons (by rw [List.getElem?_toArray]; rfl) (fun K hK => ?_) AllReadyH.nil
        clear hHeld
        go_simp
        have c8 := Lib.hid (one_new vu109 (.int .i64 x7))
        have c18x := Lib.hid (one_alloc c18.out (.cells #[(.int .i64 x7)] 3))
        clear c18
        have c18 := c18x
        clear c18x
        have HKd := Lib.hid (HK.out.alloc (.cells #[(.int .i64 x7)] 3))
        clear HK
        have HK := HKd
        clear HKd
        refine hK.out _ _ HK.out.l (fun hHeld => ?_)
        clear hK K
        generalize (vu109.alloc (.cells #[(.int .i64 x7)] 3)) = vu110 at *
        generalize vu109.heap.size = p8 at *
        refine wpAnyH_ready (rs := [9]) (by kernel_rfl) (by simp) ?_
        refine AllReadyH.cons (by rw [List.getElem?_toArray]; rfl) (fun K hK => ?_) AllReadyH.nil
        clear hHeld
        rw [if_pos (by rfl)]
        refine wp_append_lies _ _ _ 23 rfl B 3 i0 (.int .i64 0) 1 8 Try.underlying23 hi hz0 hz1 hz2 rfl (by decide) vW k _ rfl HK.out.rw ⟨p8, 0, none⟩ 1 1 [(.int .i64 x7)] rfl rfl (one_news c8.out) (by simp [Value.oneCell']) (by decide) (by unfold maxLen; omega) (by omega) HK.out.sz _ rfl ?_
        intro g5 cap5 w5 hown5 hgrow5 hl5 hlt5
        have HKd := Lib.hid (HK.out.addW HY7.out hown5 hgrow5 hl5)
        clear HK
        have HK := HKd
        clear HKd c8
        have c18x := Lib.hid (one_kept c18.out hgrow5 n18.out)
        clear c18 n18
        have c18 := c18x
        clear c18x
        clear hown5 hgrow5 hl5 hlt5
        refine hK.out _ _ HK.out.l (fun hHeld => ?_)
        clear hK K
        refine wpAnyH_take (i := 20) (v := ?vu111) (by rw [List.getElem?_toArray]; rfl) (by kernel_rfl) (by kernel_rfl) (by kernel_rfl) ?ku111 (Or.inl ⟨by rfl, ?yu111⟩) hHeld ?ru111
        case ku111 => exact fun c a w h => hP c a _ _ w h
        case yu111 => (intro wz hSw; clear hSw; go_simp; try (with_reducible rfl))
        simp only [Act.put, List.setIfInBounds_toArray, List.set_cons_zero, List.set_cons_succ]
        refine wpAnyH_ready (rs := [19]) (by kernel_rfl) (by simp) ?_
        refine AllReadyH.cons (by rw [List.getElem?_toArray]; rfl) (fun K hK => ?_) AllReadyH.nil
        clear hHeld
        rw [if_pos (by rfl)]
        refine wp_append_lies _ _ _ 23 rfl B 3 i0 (.int .i64 0) 1 8 Try.underlying23 hi hz0 hz1 hz2 rfl (by decide) vV k _ rfl HK.out.rv ⟨p18, 0, none⟩ 1 1 [(.int .i64 x17)] rfl rfl (one_news c18.out) (by simp [Value.oneCell']) (by decide) (by unfold maxLen; omega) (by omega) HK.out.sz _ rfl ?_
        intro g6 cap6 w6 hown6 hgrow6 hl6 hlt6
        have HKd := Lib.hid (HK.out.addV HY17.out hown6 hgrow6 hl6)
        clear HK
        have HK := HKd
        clear HKd c18
        clear hown6 hgrow6 hl6 hlt6
        refine hK.out _ _ HK.out.l (fun hHeld => ?_)
        clear hK K
        refine wpAnyH_ready (rs := [21]) (by kernel_rfl) (by simp) ?_
        refine AllReadyH.cons (by rw [List.getElem?_toArray]; rfl) (fun K hK => ?_) AllReadyH.nil
        have c5 := cell_of_row _ gi 3 _ 26 _ HK.out.box
        have f5 : World.frozen? _ ⟨gi, 3, none⟩ = false := frozen_of_row _ gi 3 _ 26 HK.out.box
        simp at c5
        clear hHeld
        go_simp
        have HKd := Lib.hid (kr_put HK.out 3 (.slice (some ⟨g5, 0, none⟩) (k + 1) cap5) rfl)
        clear HK
        have HK := HKd
        clear HKd
        refine hK.out _ _ HK.out.l (fun hHeld => ?_)
        clear hK K c5 f5
        refine wpAnyH_take (i := 22) (v := ?vu112) (by rw [List.getElem?_toArray]; rfl) (by kernel_rfl) (by kernel_rfl) (by kernel_rfl) ?ku112 (Or.inl ⟨by rfl, ?yu112⟩) hHeld ?ru112
        case ku112 => exact fun c a w h => hP c a _ _ w h
        case yu112 => (intro wz hSw; clear hSw; go_simp; try (with_reducible rfl))
        simp only [Act.put, List.setIfInBounds_toArray, List.set_cons_zero, List.set_cons_succ]
        refine wpAnyH_ready (rs := [23]) (by kernel_rfl) (by simp) ?_
        refine AllReadyH.cons (by rw [List.getElem?_toArray]; rfl) (fun K hK => ?_) AllReadyH.nil
        have c5 := cell_of_row _ gi 4 _ 26 _ HK.out.box
        have f5 : World.frozen? _ ⟨gi, 4, none⟩ = false := frozen_of_row _ gi 4 _ 26 HK.out.box
        simp at c5
        clear hHeld
        go_simp
        have HKd := Lib.hid (kr_put HK.out 4 (.slice (some ⟨g6, 0, none⟩) (k + 1) cap6) rfl)
        clear HK
        have HK := HKd
        clear HKd
        refine hK.out _ _ HK.out.l (fun hHeld => ?_)
        clear hK K c5 f5 hHeld
        refine wpAnyH_done (by kernel_rfl) ?_ _
        exact HRT.out _ _ _ _ _ _ _ _ _ _ _ _ _ _ _ _ _ _ _ _ _ _ _ _ _ _ _ HK.out
      · clear hHeld
        go_simp
        have c8 := Lib.hid (one_new vu109 (.int .i64 x7))
        have c18x := Lib.hid (one_alloc c18.out (.cells #[(.int .i64 x7)] 3))
        clear c18
        have c18 := c18x
        clear c18x
        have HKd := Lib.hid (HK.out.alloc (.cells #[(.int .i64 x7)] 3))
        clear HK
        have HK := HKd
        clear HKd
        refine hK.out _ _ HK.out.l (fun hHeld => ?_)
        clear hK K
        generalize (vu109.alloc (.cells #[(.int .i64 x7)] 3)) = vu113 at *
        generalize vu109.heap.size = p8 at *
        refine wpAnyH_ready (rs := [1]) (by kernel_rfl) (by simp) ?_
        refine AllReadyH.cons (by rw [List.getElem?_toArray]; rfl) (fun K hK => ?_) AllReadyH.nil
        have c5 : vu113.cell? ⟨gi, 3, none⟩ = some vW := cell_of_row _ gi 3 _ 26 _ HK.out.box
        clear hHeld
        go_simp
        refine hK.out _ _ HK.out.l (fun hHeld => ?_)
        clear hK K c5
        refine wpAnyH_ready (rs := [9]) (by kernel_rfl) (by simp) ?_
        refine AllReadyH.cons (by rw [List.getElem?_toArray]; rfl) (fun K hK => ?_) AllReadyH.nil
        clear hHeld
        rw [if_pos (by rfl)]
        refine wp_append_lies _ _ _ 23 rfl B 3 i0 (.int .i64 0) 1 8 Try.underlying23 hi hz0 hz1 hz2 rfl (by decide) vW k _ rfl HK.out.rw ⟨p8, 0, none⟩ 1 1 [(.int .i64 x7)] rfl rfl (one_news c8.out) (by simp [Value.oneCell']) (by decide) (by unfold maxLen; omega) (by omega) HK.out.sz _ rfl ?_
        intro g5 cap5 w5 hown5 hgrow5 hl5 hlt5
        have HKd := Lib.hid (HK.out.addW HY7.out hown5 hgrow5 hl5)
        clear HK
        have HK := HKd
        clear HKd c8
        have c18x := Lib.hid (one_kept c18.out hgrow5 n18.out)
        clear c18 n18
        have c18 := c18x
        clear c18x
        clear hown5 hgrow5 hl5 hlt5
        refine hK.out _ _ HK.out.l (fun hHeld => ?_)
        clear hK K
        refine wpAnyH_take (i := 20) (v := ?vu114) (by rw [List.getElem?_toArray]; rfl) (by kernel_rfl) (by kernel_rfl) (by kernel_rfl) ?ku114 (Or.inl ⟨by rfl, ?yu114⟩) hHeld ?ru114
        case ku114 => exact fun c a w h => hP c a _ _ w h
        case yu114 => (intro wz hSw; clear hSw; go_simp; try (with_reducible rfl))
        simp only [Act.put, List.setIfInBounds_toArray, List.set_cons_zero, List.set_cons_succ]
        refine wpAnyH_ready (rs := [19]) (by kernel_rfl) (by simp) ?_
        refine AllReadyH.cons (by rw [List.getElem?_toArray]; rfl) (fun K hK => ?_) AllReadyH.nil
        clear hHeld
        rw [if_pos (by rfl)]
        refine wp_append_lies _ _ _ 23 rfl B 3 i0 (.int .i64 0) 1 8 Try.underlying23 hi hz0 hz1 hz2 rfl (by decide) vV k _ rfl HK.out.rv ⟨p18, 0, none⟩ 1 1 [(.int .i64 x17)] rfl rfl (one_news c18.out) (by simp [Value.oneCell']) (by decide) (by unfold maxLen; omega) (by omega) HK.out.sz _ rfl ?_
        intro g6 cap6 w6 hown6 hgrow6 hl6 hlt6
        have HKd := Lib.hid (HK.out.addV HY17.out hown6 hgrow6 hl6)
        clear HK
        have HK := HKd
        clear HKd c18
        clear hown6 hgrow6 hl6 hlt6
        refine hK.out _ _ HK.out.l (fun hHeld => ?_)
        clear hK K
        refine wpAnyH_ready (rs := [21]) (by kernel_rfl) (by simp) ?_
        refine AllReadyH.cons (by rw [List.getElem?_toArray]; rfl) (fun K hK => ?_) AllReadyH.nil
        have c5 := cell_of_row _ gi 3 _ 26 _ HK.out.box
        have f5 : World.frozen? _ ⟨gi, 3, none⟩ = false := frozen_of_row _ gi 3 _ 26 HK.out.box
        simp at c5
        clear hHeld
        go_simp
        have HKd := Lib.hid (kr_put HK.out 3 (.slice (some ⟨g5, 0, none⟩) (k + 1) cap5) rfl)
        clear HK
        have HK := HKd
        clear HKd
        refine hK.out _ _ HK.out.l (fun hHeld => ?_)
        clear hK K c5 f5
        refine wpAnyH_take (i := 22) (v := ?vu115) (by rw [List.getElem?_toArray]; rfl) (by kernel_rfl) (by kernel_rfl) (by kernel_rfl) ?ku115 (Or.inl ⟨by rfl, ?yu115⟩) hHeld ?ru115
        case ku115 => exact fun c a w h => hP c a _ _ w h
        case yu115 => (intro wz hSw; clear hSw; go_simp; try (with_reducible rfl))
        simp only [Act.put, List.setIfInBounds_toArray, List.set_cons_zero, List.set_cons_succ]
        refine wpAnyH_ready (rs := [23]) (by kernel_rfl) (by simp) ?_
        refine AllReadyH.cons (by rw [List.getElem?_toArray]; rfl) (fun K hK => ?_) AllReadyH.nil
        have c5 := cell_of_row _ gi 4 _ 26 _ HK.out.box
        have f5 : World.frozen? _ ⟨gi, 4, none⟩ = false := frozen_of_row _ gi 4 _ 26 HK.out.box
        simp at c5
        clear hHeld
        go_simp
        have HKd := Lib.hid (kr_put HK.out 4 (.slice (some ⟨g6, 0, none⟩) (k + 1) cap6) rfl)
        clear HK
        have HK := HKd
        clear HKd
        refine hK.out _ _ HK.out.l (fun hHeld => ?_)
        clear hK K c5 f5 hHeld
        refine wpAnyH_done (by kernel_rfl) ?_ _
        exact HRT.out _ _ _ _ _ _ _ _ _ _ _ _ _ _ _ _ _ _ _ _ _ _ _ _ _ _ _ HK.out
  · clear hHeld
    go_simp
    have n18 := Lib.hid (row_fresh HK.out.rw)
    have c18 := Lib.hid (one_new vu1 (.int .i64 x17))
    have HKd := Lib.hid (HK.out.alloc (.cells #[(.int .i64 x17)] 3))
    clear HK
    have HK := HKd
    clear HKd
    refine hK.out _ _ HK.out.l (fun hHeld => ?_)
    clear hK K
    generalize (vu1.alloc (.cells #[(.int .i64 x17)] 3)) = vu116 at *
    generalize vu1.heap.size = p18 at *
    refine wpAnyH_ready (rs := [1, 8, 11]) (by kernel_rfl) (by simp) ?_
    refine AllReadyH.cons (by rw [List.getElem?_toArray]; rfl) (fun K hK => ?_) (AllReadyH.cons (by rw [List.getElem?_toArray]; rfl) (fun K hK => ?_) (AllReadyH.cons (by rw [List.getElem?_toArray]; rfl) (fun K hK => ?_) AllReadyH.nil))
    · have c5 : vu116.cell? ⟨gi, 3, none⟩ = some vW := cell_of_row _ gi 3 _ 26 _ HK.out.box
      clear hHeld
      go_simp
      refine hK.out _ _ HK.out.l (fun hHeld => ?_)
      clear hK K c5
      refine wpAnyH_ready (rs := [8, 11]) (by kernel_rfl) (by simp) ?_
      refine AllReadyH.cons (by rw [List.getElem?_toArray]; rfl) (fun K hK => ?_) (AllReadyH.cons (by rw [List.getElem?_toArray]; rfl) (fun K hK => ?_) AllReadyH.nil)
      · clear hHeld
        go_simp
        have c8 := Lib.hid (one_new vu116 (.int .i64 x7))
        have c18x := Lib.hid (one_alloc c18.out (.cells #[(.int .i64 x7)] 3))
        clear c18
        have c18 := c18x
        clear c18x
        have HKd := Lib.hid (HK.out.alloc (.cells #[(.int .i64 x7)] 3))
        clear HK
        have HK := HKd
        clear HKd
        refine hK.out _ _ HK.out.l (fun hHeld => ?_)
        clear hK K
        generalize (vu116.alloc (.cells #[(.int .i64 x7)] 3)) = vu117 at *
        generalize vu116.heap.size = p8 at *
        refine wpAnyH_ready (rs := [9, 11]) (by kernel_rfl) (by simp) ?_
        refine AllReadyH.cons (by rw [List.getElem?_toArray]; rfl) (fun K hK => ?_) (AllReadyH.cons (by rw [List.getElem?_toArray]; rfl) (fun K hK => ?_) AllReadyH.nil)
        · clear hHeld
          rw [if_pos (by rfl)]
          refine wp_append_lies _ _ _ 23 rfl B 3 i0 (.int .i64 0) 1 8 Try.underlying23 hi hz0 hz1 hz2 rfl (by decide) vW k _ rfl HK.out.rw ⟨p8, 0, none⟩ 1 1 [(.int .i64 x7)] rfl rfl (one_news c8.out) (by simp [Value.oneCell']) (by decide) (by unfold maxLen; omega) (by omega) HK.out.sz _ rfl ?_
          intro g5 cap5 w5 hown5 hgrow5 hl5 hlt5
          have HKd := Lib.hid (HK.out.addW HY7.out hown5 hgrow5 hl5)
          clear HK
          have HK := HKd
          clear HKd c8
          have c18x := Lib.hid (one_kept c18.out hgrow5 n18.out)
          clear c18 n18
          have c18 := c18x
          clear c18x
          clear hown5 hgrow5 hl5 hlt5
          refine hK.out _ _ HK.out.l (fun hHeld => ?_)
          clear hK K
          refine wpAnyH_ready (rs := [11]) (by kernel_rfl) (by simp) ?_
          refine AllReadyH.cons (by rw [List.getElem?_toArray]; rfl) (fun K hK => ?_) AllReadyH.nil
          have c5 : w5.cell? ⟨gi, 4, none⟩ = some vV := cell_of_row _ gi 4 _ 26 _ HK.out.box
          clear hHeld
          go_simp
          refine hK.out _ _ HK.out.l (fun hHeld => ?_)
          clear hK K c5
          refine wpAnyH_take (i := 20) (v := ?vu118) (by rw [List.getElem?_toArray]; rfl) (by kernel_rfl) (by kernel_rfl) (by kernel_rfl) ?ku118 (Or.inl ⟨by rfl, ?yu118⟩) hHeld ?ru118
          case ku118 => exact fun c a w h => hP c a _ _ w h
          case yu118 => (intro wz hSw; clear hSw; go_simp; try (with_reducible rfl))
          simp only [Act.put, List.setIfInBounds_toArray, List.set_cons_zero, List.set_cons_succ]
          refine wpAnyH_ready (rs := [19]) (by kernel_rfl) (by simp) ?_
          refine AllReadyH.cons (by rw [List.getElem?_toArray]; rfl) (fun K hK => ?_) AllReadyH.nil
          clear hHeld
          rw [if_pos (by rfl)]
          refine wp_append_lies _ _ _ 23 rfl B 3 i0 (.int .i64 0) 1 8 Try.underlying23 hi hz0 hz1 hz2 rfl (by decide) vV k _ rfl HK.out.rv ⟨p18, 0, none⟩ 1 1 [(.int .i64 x17)] rfl rfl (one_news c18.out) (by simp [Value.oneCell']) (by decide) (by unfold maxLen; omega) (by omega) HK.out.sz _ rfl ?_
          intro g6 cap6 w6 hown6 hgrow6 hl6 hlt6
          have HKd := Lib.hid (HK.out.addV HY17.out hown6 hgrow6 hl6)
          clear HK
          have HK := HKd
          clear HKd c18
          clear hown6 hgrow6 hl6 hlt6
          refine hK.out _ _ HK.out.l (fun hHeld => ?_)
          clear hK K
          refine wpAnyH_ready (rs := [21]) (by kernel_rfl) (by simp) ?_
          refine AllReadyH.cons (by rw [List.getElem?_toArray]; rfl) (fun K hK => ?_) AllReadyH.nil
          have c5 := cell_of_row _ gi 3 _ 26 _ HK.out.box
          have f5 : World.frozen? _ ⟨gi, 3, none⟩ = false := frozen_of_row _ gi 3 _ 26 HK.out.box
          simp at c5
          clear hHeld
          go_simp
          have HKd := Lib.hid (kr_put HK.out 3 (.slice (some ⟨g5, 0, none⟩) (k + 1) cap5) rfl)
          clear HK
          have HK := HKd
          clear HKd
          refine hK.out _ _ HK.out.l (fun hHeld => ?_)
          clear hK K c5 f5
          refine wpAnyH_take (i := 22) (v := ?vu119) (by rw [List.getElem?_toArray]; rfl) (by kernel_rfl) (by kernel_rfl) (by kernel_rfl) ?ku119 (Or.inl ⟨by rfl, ?yu119⟩) hHeld ?ru119
          case ku119 => exact fun c a w h => hP c a _ _ w h
          case yu119 => (intro wz hSw; clear hSw; go_simp; try (with_reducible rfl))
          simp only [Act.put, List.setIfInBounds_toArray, List.set_cons_zero, List.set_cons_succ]
          refine wpAnyH_ready (rs := [23]) (by kernel_rfl) (by simp) ?_
          refine AllReadyH.cons (by rw [List.getElem?_toArray]; rfl) (fun K hK => ?_) AllReadyH.nil
          have c5 := cell_of_row _ gi 4 _ 26 _ HK.out.box
          have f5 : World.frozen? _ ⟨gi, 4, none⟩ = false := frozen_of_row _ gi 4 _ 26 HK.out.box
          simp at c5
          clear hHeld
          go_simp
          have HKd := Lib.hid (kr_put HK.out 4 (.slice (some ⟨g6, 0, none⟩) (k + 1) cap6) rfl)
          clear HK
          have HK := HKd
          clear HKd
          refine hK.out _ _ HK.out.l (fun hHeld => ?_)
          clear hK K c5 f5 hHeld
          refine wpAnyH_done (by kernel_rfl) ?_ _
          exact HRT.out _ _ _ _ _ _ _ _ _ _ _ _ _ _ _ _ _ _ _ _ _ _ _ _ _ _ _ HK.out
        · have c5 : vu117.cell? ⟨gi, 4, none⟩ = some vV := cell_of_row _ gi 4 _ 26 _ HK.out.box
          clear hHeld
          go_simp
          refine hK.out _ _ HK.out.l (fun hHeld => ?_)
          clear hK K c5
          refine wpAnyH_ready (rs := [9]) (by kernel_rfl) (by simp) ?_
          refine AllReadyH.cons (by rw [List.getElem?_toArray]; rfl) (fun K hK => ?_) AllReadyH.nil
          clear hHeld
          rw [if_pos (by rfl)]
          refine wp_append_lies _ _ _ 23 rfl B 3 i0 (.int .i64 0) 1 8 Try.underlying23 hi hz0 hz1 hz2 rfl (by decide) vW k _ rfl HK.out.rw ⟨p8, 0, none⟩ 1 1 [(.int .i64 x7)] rfl rfl (one_news c8.out) (by simp [Value.oneCell']) (by decide) (by unfold maxLen; omega) (by omega) HK.out.sz _ rfl ?_
          intro g5 cap5 w5 hown5 hgrow5 hl5 hlt5
          have HKd := Lib.hid (HK.out.addW HY7.out hown5 hgrow5 hl5)
          clear HK
          have HK := HKd
          clear HKd c8
          have c18x := Lib.hid (one_kept c18.out hgrow5 n18.out)
          clear c18 n18
          have c18 := c18x
          clear c18x
          clear hown5 hgrow5 hl5 hlt5
          refine hK.out _ _ HK.out.l (fun hHeld => ?_)
          clear hK K
          refine wpAnyH_take (i := 20) (v := ?vu120) (by rw [List.getElem?_toArray]; rfl) (by kernel_rfl) (by kernel_rfl) (by kernel_rfl) ?ku120 (Or.inl ⟨by rfl, ?yu120⟩) hHeld ?ru120
          case ku120 => exact fun c a w h => hP c a _ _ w h
          case yu120 => (intro wz hSw; clear hSw; go_simp; try (with_reducible rfl))
          simp only [Act.put, List.setIfInBounds_toArray, List.set_cons_zero, List.set_cons_succ]
          refine wpAnyH_ready (rs := [19]) (by kernel_rfl) (by simp) ?_
          refine AllReadyH.cons (by rw [List.getElem?_toArray]; rfl) (fun K hK => ?_) AllReadyH.nil
          clear hHeld
          rw [if_pos (by rfl)]
          refine wp_append_lies _ _ _ 23 rfl B 3 i0 (.int .i64 0) 1 8 Try.underlying23 hi hz0 hz1 hz2 rfl (by decide) vV k _ rfl HK.out.rv ⟨p18, 0, none⟩ 1 1 [(.int .i64 x17)] rfl rfl (one_news c18.out) (by simp [Value.oneCell']) (by decide) (by unfold maxLen; omega) (by omega) HK.out.sz _ rfl ?_
          intro g6 cap6 w6 hown6 hgrow6 hl6 hlt6
          have HKd := Lib.hid (HK.out.addV HY17.out hown6 hgrow6 hl6)
          clear HK
          have HK := HKd
          clear HKd c18
          clear hown6 hgrow6 hl6 hlt6
          refine hK.out _ _ HK.out.l (fun hHeld => ?_)
          clear hK K
          refine wpAnyH_ready (rs := [21]) (by kernel_rfl) (by simp) ?_
          refine AllReadyH.cons (by rw [List.getElem?_toArray]; rfl) (fun K hK => ?_) AllReadyH.nil
          have c5 := cell_of_row _ gi 3 _ 26 _ HK.out.box
          have f5 : World.frozen? _ ⟨gi, 3, none⟩ = false := frozen_of_row _ gi 3 _ 26 HK.out.box
          simp at c5
          clear hHeld
          go_simp
          have HKd := Lib.hid (kr_put HK.out 3 (.slice (some ⟨g5, 0, none⟩) (k + 1) cap5) rfl)
          clear HK
          have HK := HKd
          clear HKd
          refine hK.out _ _ HK.out.l (fun hHeld => ?_)
          clear hK K c5 f5
          refine wpAnyH_take (i := 22) (v := ?vu121) (by rw [List.getElem?_toArray]; rfl) (by kernel_rfl) (by kernel_rfl) (by kernel_rfl) ?ku121 (Or.inl ⟨by rfl, ?yu121⟩) hHeld ?ru121
          case ku121 => exact fun c a w h => hP c a _ _ w h
          case yu121 => (intro wz hSw; clear hSw; go_simp; try (with_reducible rfl))
          simp only [Act.put, List.setIfInBounds_toArray, List.set_cons_zero, List.set_cons_succ]
          refine wpAnyH_ready (rs := [23]) (by kernel_rfl) (by simp) ?_
          refine AllReadyH.cons (by rw [List.getElem?_toArray]; rfl) (fun K hK => ?_) AllReadyH.nil
          have c5 := cell_of_row _ gi 4 _ 26 _ HK.out.box
          have f5 : World.frozen? _ ⟨gi, 4, none⟩ = false := frozen_of_row _ gi 4 _ 26 HK.out.box
          simp at c5
          clear hHeld
          go_simp
          have HKd := Lib.hid (kr_put HK.out 4 (.slice (some ⟨g6, 0, none⟩) (k + 1) cap6) rfl)
          clear HK
          have HK := HKd
          clear HKd
          refine hK.out _ _ HK.out.l (fun hHeld => ?_)
          clear hK K c5 f5 hHeld
          refine wpAnyH_done (by kernel_rfl) ?_ _
          exact HRT.out _ _ _ _ _ _ _ _ _ _ _ _ _ _ _ _ _ _ _ _ _ _ _ _ _ _ _ HK.out
      · have c5 : vu116.cell? ⟨gi, 4, none⟩ = some vV := cell_of_row _ gi 4 _ 26 _ HK.out.box
        clear hHeld
        go_simp
        refine hK.out _ _ HK.out.l (fun hHeld => ?_)
        clear hK K c5
        refine wpAnyH_ready (rs := [8]) (by kernel_rfl) (by simp) ?_
        refine AllReadyH.cons (by rw [List.getElem?_toArray]; rfl) (fun K hK => ?_) AllReadyH.nil
        clear hHeld
        go_simp
        have c8 := Lib.hid (one_new vu116 (.int .i64 x7))
        have c18x := Lib.hid (one_alloc c18.out (.cells #[(.int .i64 x7)] 3))
        clear c18
        have c18 := c18x
        clear c18x
        have HKd := Lib.hid (HK.out.alloc (.cells #[(.int .i64 x7)] 3))
        clear HK
        have HK := HKd
        clear HKd
        refine hK.out _ _ HK.out.l (fun hHeld => ?_)
        clear hK K
        generalize (vu116.alloc (.cells #[(.int .i64 x7)] 3)) = vu122 at *
        generalize vu116.heap.size = p8 at *
        refine wpAnyH_ready (rs := [9]) (by kernel_rfl) (by simp) ?_
        refine AllReadyH.cons (by rw [List.getElem?_toArray]; rfl) (fun K hK => ?_) AllReadyH.nil
        clear hHeld
        rw [if_pos (by rfl)]
        refine wp_append_lies _ _ _ 23 rfl B 3 i0 (.int .i64 0) 1 8 Try.underlying23 hi hz0 hz1 hz2 rfl (by decide) vW k _ rfl HK.out.rw ⟨p8, 0, none⟩ 1 1 [(.int .i64 x7)] rfl rfl (one_news c8.out) (by simp [Value.oneCell']) (by decide) (by unfold maxLen; omega) (by omega) HK.out.sz _ rfl ?_
        intro g5 cap5 w5 hown5 hgrow5 hl5 hlt5
        have HKd := Lib.hid (HK.out.addW HY7.out hown5 hgrow5 hl5)
        clear HK
        have HK := HKd
        clear HKd c8
        have c18x := Lib.hid (one_kept c18.out hgrow5 n18.out)
        clear c18 n18
        have c18 := c18x
        clear c18x
        clear hown5 hgrow5 hl5 hlt5
        refine hK.out _ _ HK.out.l (fun hHeld => ?_)
        clear hK K
        refine wpAnyH_take (i := 20) (v := ?vu123) (by rw [List.getElem?_toArray]; rfl) (by kernel_rfl) (by kernel_rfl) (by kernel_rfl) ?ku123 (Or.inl ⟨by rfl, ?yu123⟩) hHeld ?ru123
        case ku123 => exact fun c a w h => hP c a _ _ w h
        case yu123 => (intro wz hSw; clear hSw; go_simp; try (with_reducible rfl))
        simp only [Act.put, List.setIfInBounds_toArray, List.set_cons_zero, List.set_cons_succ]
        refine wpAnyH_ready (rs := [19]) (by kernel_rfl) (by simp) ?_
        refine AllReadyH.cons (by rw [List.getElem?_toArray]; rfl) (fun K hK => ?_) AllReadyH.nil
        clear hHeld
        rw [if_pos (by rfl)]
        refine wp_append_lies _ _ _ 23 rfl B 3 i0 (.int .i64 0) 1 8 Try.underlying23 hi hz0 hz1 hz2 rfl (by decide) vV k _ rfl HK.out.rv ⟨p18, 0, none⟩ 1 1 [(.int .i64 x17)] rfl rfl (one_news c18.out) (by simp [Value.oneCell']) (by decide) (by unfold maxLen; omega) (by omega) HK.out.sz _ rfl ?_
        intro g6 cap6 w6 hown6 hgrow6 hl6 hlt6
        have HKd := Lib.hid (HK.out.addV HY17.out hown6 hgrow6 hl6)
        clear HK
        have HK := HKd
        clear HKd c18
        clear hown6 hgrow6 hl6 hlt6
        refine hK.out _ _ HK.out.l (fun hHeld => ?_)
        clear hK K
        refine wpAnyH_ready (rs := [21]) (by kernel_rfl) (by simp) ?_
        refine AllReadyH.cons (by rw [List.getElem?_toArray]; rfl) (fun K hK => ?_) AllReadyH.nil
        have c5 := cell_of_row _ gi 3 _ 26 _ HK.out.box
        have f5 : World.frozen? _ ⟨gi, 3, none⟩ = false := frozen_of_row _ gi 3 _ 26 HK.out.box
        simp at c5
        clear hHeld
        go_simp
        have HKd := Lib.hid (kr_put HK.out 3 (.slice (some ⟨g5, 0, none⟩) (k + 1) cap5) rfl)
        clear HK
        have HK := HKd
        clear HKd
        refine hK.out _ _ HK.out.l (fun hHeld => ?_)
        clear hK K c5 f5
        refine wpAnyH_take (i := 22) (v := ?vu124) (by rw [List.getElem?_toArray]; rfl) (by kernel_rfl) (by kernel_rfl) (by kernel_rfl) ?ku124 (Or.inl ⟨by rfl, ?yu124⟩) hHeld ?ru124
        case ku124 => exact fun c a w h => hP c a _ _ w h
        case yu124 => (intro wz hSw; clear hSw; go_simp; try (with_reducible rfl))
        simp only [Act.put, List.setIfInBounds_toArray, List.set_cons_zero, List.set_cons_succ]
        refine wpAnyH_ready (rs := [23]) (by kernel_rfl) (by simp) ?_
        refine AllReadyH.cons (by rw [List.getElem?_toArray]; rfl) (fun K hK => ?_) AllReadyH.nil
        have c5 := cell_of_row _ gi 4 _ 26 _ HK.out.box
        have f5 : World.frozen? _ ⟨gi, 4, none⟩ = false := frozen_of_row _ gi 4 _ 26 HK.out.box
        simp at c5
        clear hHeld
        go_simp
        have HKd := Lib.hid (kr_put HK.out 4 (.slice (some ⟨g6, 0, none⟩) (k + 1) cap6) rfl)
        clear HK
        have HK := HKd
        clear HKd
        refine hK.out _ _ HK.out.l (fun hHeld => ?_)
        clear hK K c5 f5 hHeld
        refine wpAnyH_done (by kernel_rfl) ?_ _
        exact HRT.out _ _ _ _ _ _ _ _ _ _ _ _ _ _ _ _ _ _ _ _ _ _ _ _ _ _ _ HK.out
    · clear hHeld
      go_simp
      have c8 := Lib.hid (one_new vu116 (.int .i64 x7))
      have c18x := Lib.hid (one_alloc c18.out (.cells #[(.int .i64 x7)] 3))
      clear c18
      have c18 := c18x
      clear c18x
      have HKd := Lib.hid (HK.out.alloc (.cells #[(.int .i64 x7)] 3))
      clear HK
      have HK := HKd
      clear HKd
      refine hK.out _ _ HK.out.l (fun hHeld => ?_)
      clear hK K
      generalize (vu116.alloc (.cells #[(.int .i64 x7)] 3)) = vu125 at *
      generalize vu116.heap.size = p8 at *
      refine wpAnyH_ready (rs := [1, 11]) (by kernel_rfl) (by simp) ?_
      refine AllReadyH.cons (by rw [List.getElem?_toArray]; rfl) (fun K hK => ?_) (AllReadyH.cons (by rw [List.getElem?_toArray]; rfl) (fun K hK => ?_) AllReadyH.nil)
      · have c5 : vu125.cell? ⟨gi, 3, none⟩ = some vW := cell_of_row _ gi 3 _ 26 _ HK.out.box
        clear hHeld
        go_simp
        refine hK.out _ _ HK.out.l (fun hHeld => ?_)
        clear hK K c5
        refine wpAnyH_ready (rs := [9, 11]) (by kernel_rfl) (by simp) ?_
        refine AllReadyH.cons (by rw [List.getElem?_toArray]; rfl) (fun K hK => ?_) (AllReadyH.cons (by rw [List.getElem?_toArray]; rfl) (fun K hK => ?_) AllReadyH.nil)
        · clear hHeld
          rw [if_pos (by rfl)]
          refine wp_append_lies _ _ _ 23 rfl B 3 i0 (.int .i64 0) 1 8 Try.underlying23 hi hz0 hz1 hz2 rfl (by decide) vW k _ rfl HK.out.rw ⟨p8, 0, none⟩ 1 1 [(.int .i64 x7)] rfl rfl (one_news c8.out) (by simp [Value.oneCell']) (by decide) (by unfold maxLen; omega) (by omega) HK.out.sz _ rfl ?_
          intro g5 cap5 w5 hown5 hgrow5 hl5 hlt5
          have HKd := Lib.hid (HK.out.addW HY7.out hown5 hgrow5 hl5)
          clear HK
          have HK := HKd
          clear HKd c8
          have c18x := Lib.hid (one_kept c18.out hgrow5 n18.out)
          clear c18 n18
          have c18 := c18x
          clear c18x
          clear hown5 hgrow5 hl5 hlt5
          refine hK.out _ _ HK.out.l (fun hHeld => ?_)
          clear hK K
          refine wpAnyH_ready (rs := [11]) (by kernel_rfl) (by simp) ?_
          refine AllReadyH.cons (by rw [List.getElem?_toArray]; rfl) (fun K hK => ?_) AllReadyH.nil
          have c5 : w5.cell? ⟨gi, 4, none⟩ = some vV := cell_of_row _ gi 4 _ 26 _ HK.out.box
          clear hHeld
          go_simp
          refine hK.out _ _ HK.out.l (fun hHeld => ?_)
          clear hK K c5
          refine wpAnyH_take (i := 20) (v := ?vu126) (by rw [List.getElem?_toArray]; rfl) (by kernel_rfl) (by kernel_rfl) (by kernel_rfl) ?ku126 (Or.inl ⟨by rfl, ?yu126⟩) hHeld ?ru126
          case ku126 => exact fun c a w h => hP c a _ _ w h
          case yu126 => (intro wz hSw; clear hSw; go_simp; try (with_reducible rfl))
          simp only [Act.put, List.setIfInBounds_toArray, List.set_cons_zero, List.set_cons_succ]
          refine wpAnyH_ready (rs := [19]) (by kernel_rfl) (by simp) ?_
          refine AllReadyH.cons (by rw [List.getElem?_toArray]; rfl) (fun K hK => ?_) AllReadyH.nil
          clear hHeld
          rw [if_pos (by rfl)]
          refine wp_append_lies _ _ _ 23 rfl B 3 i0 (.int .i64 0) 1 8 Try.underlying23 hi hz0 hz1 hz2 rfl (by decide) vV k _ rfl HK.out.rv ⟨p18, 0, none⟩ 1 1 [(.int .i64 x17)] rfl rfl (one_news c18.out) (by simp [Value.oneCell']) (by decide) (by unfold maxLen; omega) (by omega) HK.out.sz _ rfl ?_
          intro g6 cap6 w6 hown6 hgrow6 hl6 hlt6
          have HKd := Lib.hid (HK.out.addV HY17.out hown6 hgrow6 hl6)
          clear HK
          have HK := HKd
          clear HKd c18
          clear hown6 hgrow6 hl6 hlt6
          refine hK.out _ _ HK.out.l (fun hHeld => ?_)
          clear hK K
          refine wpAnyH_ready (rs := [21]) (by kernel_rfl) (by simp) ?_
          refine AllReadyH.cons (by rw [List.getElem?_toArray]; rfl) (fun K hK => ?_) AllReadyH.nil
          have c5 := cell_of_row _ gi 3 _ 26 _ HK.out.box
          have f5 : World.frozen? _ ⟨gi, 3, none⟩ = false := frozen_of_row _ gi 3 _ 26 HK.out.box
          simp at c5
          clear hHeld
          go_simp
          have HKd := Lib.hid (kr_put HK.out 3 (.slice (some ⟨g5, 0, none⟩) (k + 1) cap5) rfl)
          clear HK
          have HK := HKd
          clear HKd
          refine hK.out _ _ HK.out.l (fun hHeld => ?_)
          clear hK K c5 f5
          refine wpAnyH_take (i := 22) (v := ?vu127) (by rw [List.getElem?_toArray]; rfl) (by kernel_rfl) (by kernel_rfl) (by kernel_rfl) ?ku127 (Or.inl ⟨by rfl, ?yu127⟩) hHeld ?ru127
          case ku127 => exact fun c a w h => hP c a _ _ w h
          case yu127 => (intro wz hSw; clear hSw; go_simp; try (with_reducible rfl))
          simp only [Act.put, List.setIfInBounds_toArray, List.set_cons_zero, List.set_cons_succ]
          refine wpAnyH_ready (rs := [23]) (by kernel_rfl) (by simp) ?_
          refine AllReadyH.cons (by rw [List.getElem?_toArray]; rfl) (fun K hK => ?_) AllReadyH.nil
          have c5 := cell_of_row _ gi 4 _ 26 _ HK.out.box
          have f5 : World.frozen? _ ⟨gi, 4, none⟩ = false := frozen_of_row _ gi 4 _ 26 HK.out.box
          simp at c5
          clear hHeld
          go_simp
          have HKd := Lib.hid (kr_put HK.out 4 (.slice (some ⟨g6, 0, none⟩) (k + 1) cap6) rfl)
          clear HK
          have HK := HKd
          clear HKd
          refine hK.out _ _ HK.out.l (fun hHeld => ?_)
          clear hK K c5 f5 hHeld
          refine wpAnyH_done (by kernel_rfl) ?_ _
          exact HRT.out _ _ _ _ _ _ _ _ _ _ _ _ _ _ _ _ _ _ _ _ _ _ _ _ _ _ _ HK.out
        · have c5 : vu125.cell? ⟨gi, 4, none⟩ = some vV := cell_of_row _ gi 4 _ 26 _ HK.out.box
          clear hHeld
          go_simp
          refine hK.out _ _ HK.out.l (fun hHeld => ?_)
          clear hK K c5
          refine wpAnyH_ready (rs := [9]) (by kernel_rfl) (by simp) ?_
          refine AllReadyH.cons (by rw [List.getElem?_toArray]; rfl) (fun K hK => ?_) AllReadyH.nil
          clear hHeld
          rw [if_pos (by rfl)]
          refine wp_append_lies _ _ _ 23 rfl B 3 i0 (.int .i64 0) 1 8 Try.underlying23 hi hz0 hz1 hz2 rfl (by decide) vW k _ rfl HK.out.rw ⟨p8, 0, none⟩ 1 1 [(.int .i64 x7)] rfl rfl (one_news c8.out) (by simp [Value.oneCell']) (by decide) (by unfold maxLen; omega) (by omega) HK.out.sz _ rfl ?_
          intro g5 cap5 w5 hown5 hgrow5 hl5 hlt5
          have HKd := Lib.hid (HK.out.addW HY7.out hown5 hgrow5 hl5)
          clear HK
          have HK := HKd
          clear HKd c8
          have c18x := Lib.hid (one_kept c18.out hgrow5 n18.out)
          clear c18 n18
          have c18 := c18x
          clear c18x
          clear hown5 hgrow5 hl5 hlt5
          refine hK.out _ _ HK.out.l (fun hHeld => ?_)
          clear hK K
          refine wpAnyH_take (i := 20) (v := ?vu128) (by rw [List.getElem?_toArray]; rfl) (by kernel_rfl) (by kernel_rfl) (by kernel_rfl) ?ku128 (Or.inl ⟨by rfl, ?yu128⟩) hHeld ?ru128
          case ku128 => exact fun c a w h => hP c a _ _ w h
          case yu128 => (intro wz hSw; clear hSw; go_simp; try (with_reducible rfl))
          simp only [Act.put, List.setIfInBounds_toArray, List.set_cons_zero, List.set_cons_succ]
          refine wpAnyH_ready (rs := [19]) (by kernel_rfl) (by simp) ?_
          refine AllReadyH.cons (by rw [List.getElem?_toArray]; rfl) (fun K hK => ?_) AllReadyH.nil
          clear hHeld
          rw [if_pos (by rfl)]
          refine wp_append_lies _ _ _ 23 rfl B 3 i0 (.int .i64 0) 1 8 Try.underlying23 hi hz0 hz1 hz2 rfl (by decide) vV k _ rfl HK.out.rv ⟨p18, 0, none⟩ 1 1 [(.int .i64 x17)] rfl rfl (one_news c18.out) (by simp [Value.oneCell']) (by decide) (by unfold maxLen; omega) (by omega) HK.out.sz _ rfl ?_
          intro g6 cap6 w6 hown6 hgrow6 hl6 hlt6
          have HKd := Lib.hid (HK.out.addV HY17.out hown6 hgrow6 hl6)
          clear HK
          have HK := HKd
          clear HKd c18
          clear hown6 hgrow6 hl6 hlt6
          refine hK.out _ _ HK.out.l (fun hHeld => ?_)
          clear hK K
          refine wpAnyH_ready (rs := [21]) (by kernel_rfl) (by simp) ?_
          refine AllReadyH.cons (by rw [List.getElem?_toArray]; rfl) (fun K hK => ?_) AllReadyH.nil
          have c5 := cell_of_row _ gi 3 _ 26 _ HK.out.box
          have f5 : World.frozen? _ ⟨gi, 3, none⟩ = false := frozen_of_row _ gi 3 _ 26 HK.out.box
          simp at c5
          clear hHeld
          go_simp
          have HKd := Lib.hid (kr_put HK.out 3 (.slice (some ⟨g5, 0, none⟩) (k + 1) cap5) rfl)
          clear HK
          have HK := HKd
          clear HKd
          refine hK.out _ _ HK.out.l (fun hHeld => ?_)
          clear hK K c5 f5
          refine wpAnyH_take (i := 22) (v := ?vu129) (by rw [List.getElem?_toArray]; rfl) (by kernel_rfl) (by kernel_rfl) (by kernel_rfl) ?ku129 (Or.inl ⟨by rfl, ?yu129⟩) hHeld ?ru129
          case ku129 => exact fun c a w h => hP c a _ _ w h
          case yu129 => (intro wz hSw; clear hSw; go_simp; try (with_reducible rfl))
          simp only [Act.put, List.setIfInBounds_toArray, List.set_cons_zero, List.set_cons_succ]
          refine wpAnyH_ready (rs := [23]) (by kernel_rfl) (by simp) ?_
          refine AllReadyH.cons (by rw [List.getElem?_toArray]; rfl) (fun K hK => ?_) AllReadyH.nil
          have c5 := cell_of_row _ gi 4 _ 26 _ HK.out.box
          have f5 : World.frozen? _ ⟨gi, 4, none⟩ = false := frozen_of_row _ gi 4 _ 26 HK.out.box
          simp at c5
          clear hHeld
          go_simp
          have HKd := Lib.hid (kr_put HK.out 4 (.slice (some ⟨g6, 0, none⟩) (k + 1) cap6) rfl)
          clear HK
          have HK := HKd
          clear HKd
          refine hK.out _ _ HK.out.l (fun hHeld => ?_)
          clear hK K c5 f5 hHeld
          refine wpAnyH_done (by kernel_rfl) ?_ _
          exact HRT.out _ _ _ _ _ _ _ _ _ _ _ _ _ _ _ _ _ _ _ _ _ _ _ _ _ _ _ HK.out
      · have c5 : vu125.cell? ⟨gi, 4, none⟩ = some vV := cell_of_row _ gi 4 _ 26 _ HK.out.box
        clear hHeld
        go_simp
        refine hK.out _ _ HK.out.l (fun hHeld => ?_)
        clear hK K c5
        refine wpAnyH_ready (rs := [1]) (by kernel_rfl) (by simp) ?_
        refine AllReadyH.cons (by rw [List.getElem?_toArray]; rfl) (fun K hK => ?_) AllReadyH.nil
        have c5 : vu125.cell? ⟨gi, 3, none⟩ = some vW := cell_of_row _ gi 3 _ 26 _ HK.out.box
        clear hHeld
        go_simp
        refine hK.out _ _ HK.out.l (fun hHeld => ?_)
        clear hK K c5
        refine wpAnyH_ready (rs := [9]) (by kernel_rfl) (by simp) ?_
        refine AllReadyH.cons (by rw [List.getElem?_toArray]; rfl) (fun K hK => ?_) AllReadyH.nil
        clear hHeld
        rw [if_pos (by rfl)]
        refine wp_append_lies _ _ _ 23 rfl B 3 i0 (.int .i64 0) 1 8 Try.underlying23 hi hz0 hz1 hz2 rfl (by decide) vW k _ rfl HK.out.rw ⟨p8, 0, none⟩ 1 1 [(.int .i64 x7)] rfl rfl (one_news c8.out) (by simp [Value.oneCell']) (by decide) (by unfold maxLen; omega) (by omega) HK.out.sz _ rfl ?_
        intro g5 cap5 w5 hown5 hgrow5 hl5 hlt5
        have HKd := Lib.hid (HK.out.addW HY7.out hown5 hgrow5 hl5)
        clear HK
        have HK := HKd
        clear HKd c8
        have c18x := Lib.hid (one_kept c18.out hgrow5 n18.out)
        clear c18 n18
        have c18 := c18x
        clear c18x
        clear hown5 hgrow5 hl5 hlt5
        refine hK.out _ _ HK.out.l (fun hHeld => ?_)
        clear hK K
        refine wpAnyH_take (i := 20) (v := ?vu130) (by rw [List.getElem?_toArray]; rfl) (by kernel_rfl) (by kernel_rfl) (by kernel_rfl) ?ku130 (Or.inl ⟨by rfl, ?yu130⟩) hHeld ?ru130
        case ku130 => exact fun c a w h => hP c a _ _ w h
        case yu130 => (intro wz hSw; clear hSw; go_simp; try (with_reducible rfl))
        simp only [Act.put, List.setIfInBounds_toArray, List.set_cons_zero, List.set_cons_succ]
        refine wpAnyH_ready (rs := [19]) (by kernel_rfl) (by simp) ?_
        refine AllReadyH.cons (by rw [List.getElem?_toArray]; rfl) (fun K hK => ?_) AllReadyH.nil
        clear hHeld
        rw [if_pos (by rfl)]
        refine wp_append_lies _ _ _ 23 rfl B 3 i0 (.int .i64 0) 1 8 Try.underlying23 hi hz0 hz1 hz2 rfl (by decide) vV k _ rfl HK.out.rv ⟨p18, 0, none⟩ 1 1 [(.int .i64 x17)] rfl rfl (one_news c18.out) (by simp [Value.oneCell']) (by decide) (by unfold maxLen; omega) (by omega) HK.out.sz _ rfl ?_
        intro g6 cap6 w6 hown6 hgrow6 hl6 hlt6
        have HKd := Lib.hid (HK.out.addV HY17.out hown6 hgrow6 hl6)
        clear HK
        have HK := HKd
        clear HKd c18
        clear hown6 hgrow6 hl6 hlt6
        refine hK.out _ _ HK.out.l (fun hHeld => ?_)
        clear hK K
        refine wpAnyH_ready (rs := [21]) (by kernel_rfl) (by simp) ?_
        refine AllReadyH.cons (by rw [List.getElem?_toArray]; rfl) (fun K hK => ?_) AllReadyH.nil
        have c5 := cell_of_row _ gi 3 _ 26 _ HK.out.box
        have f5 : World.frozen? _ ⟨gi, 3, none⟩ = false := frozen_of_row _ gi 3 _ 26 HK.out.box
        simp at c5
        clear hHeld
        go_simp
        have HKd := Lib.hid (kr_put HK.out 3 (.slice (some ⟨g5, 0, none⟩) (k + 1) cap5) rfl)
        clear HK
        have HK := HKd
        clear HKd
        refine hK.out _ _ HK.out.l (fun hHeld => ?_)
        clear hK K c5 f5
        refine wpAnyH_take (i := 22) (v := ?vu131) (by rw [List.getElem?_toArray]; rfl) (by kernel_rfl) (by kernel_rfl) (by kernel_rfl) ?ku131 (Or.inl ⟨by rfl, ?yu131⟩) hHeld ?ru131
        case ku131 => exact fun c a w h => hP c a _ _ w h
        case yu131 => (intro wz hSw; clear hSw; go_simp; try (with_reducible rfl))
        simp only [Act.put, List.setIfInBounds_toArray, List.set_cons_zero, List.set_cons_succ]
        refine wpAnyH_ready (rs := [23]) (by kernel_rfl) (by simp) ?_
        refine AllReadyH.cons (by rw [List.getElem?_toArray]; rfl) (fun K hK => ?_) AllReadyH.nil
        have c5 := cell_of_row _ gi 4 _ 26 _ HK.out.box
        have f5 : World.frozen? _ ⟨gi, 4, none⟩ = false := frozen_of_row _ gi 4 _ 26 HK.out.box
        simp at c5
        clear hHeld
        go_simp
        have HKd := Lib.hid (kr_put HK.out 4 (.slice (some ⟨g6, 0, none⟩) (k + 1) cap6) rfl)
        clear HK
        have HK := HKd
        clear HKd
        refine hK.out _ _ HK.out.l (fun hHeld => ?_)
        clear hK K c5 f5 hHeld
        refine wpAnyH_done (by kernel_rfl) ?_ _
        exact HRT.out _ _ _ _ _ _ _ _ _ _ _ _ _ _ _ _ _ _ _ _ _ _ _ _ _ _ _ HK.out
    · have c5 : vu116.cell? ⟨gi, 4, none⟩ = some vV := cell_of_row _ gi 4 _ 26 _ HK.out.box
      clear hHeld
      go_simp
      refine hK.out _ _ HK.out.l (fun hHeld => ?_)
      clear hK K c5
      refine wpAnyH_ready (rs := [1, 8]) (by kernel_rfl) (by simp) ?_
      refine AllReadyH.cons (by rw [List.getElem?_toArray]; rfl) (fun K hK => ?_) (AllReadyH.cons (by rw [List.getElem?_toArray]; rfl) (fun K hK => ?_) AllReadyH.nil)
      · have c5 : vu116.cell? ⟨gi, 3, none⟩ = some vW := cell_of_row _ gi 3 _ 26 _ HK.out.box
        clear hHeld
        go_simp
        refine hK.out _ _ HK.out.l (fun hHeld => ?_)
        clear hK K c5
        refine wpAnyH_ready (rs := [8]) (by kernel_rfl) (by simp) ?_
        refine AllReadyH.cons (by rw [List.getElem?_toArray]; rfl) (fun K hK => ?_) AllReadyH.nil
        clear hHeld
        go_simp
        have c8 := Lib.hid (one_new vu116 (.int .i64 x7))
        have c18x := Lib.hid (one_alloc c18.out (.cells #[(.int .i64 x7)] 3))
        clear c18
        have c18 := c18x
        clear c18x
        have HKd := Lib.hid (HK.out.alloc (.cells #[(.int .i64 x7)] 3))
        clear HK
        have HK := HKd
        clear HKd
        refine hK.out _ _ HK.out.l (fun hHeld => ?_)
        clear hK K
        generalize (vu116.alloc (.cells #[(.int .i64 x7)] 3)) = vu132 at *
        generalize vu116.heap.size = p8 at *
        refine wpAnyH_ready (rs := [9]) (by kernel_rfl) (by simp) ?_
        refine AllReadyH.cons (by rw [List.getElem?_toArray]; rfl) (fun K hK => ?_) AllReadyH.nil
        clear hHeld
        rw [if_pos (by rfl)]
        refine wp_append_lies _ _ _ 23 rfl B 3 i0 (.int .i64 0) 1 8 Try.underlying23 hi hz0 hz1 hz2 rfl (by decide) vW k _ rfl HK.out.rw ⟨p8, 0, none⟩ 1 1 [(.int .i64 x7)] rfl rfl (one_news c8.out) (by simp [Value.oneCell']) (by decide) (by unfold maxLen; omega) (by omega) HK.out.sz _ rfl ?_
        intro g5 cap5 w5 hown5 hgrow5 hl5 hlt5
        have HKd := Lib.hid (HK.out.addW HY7.out hown5 hgrow5 hl5)
        clear HK
        have HK := HKd
        clear HKd c8
        have c18x := Lib.hid (one_kept c18.out hgrow5 n18.out)
        clear c18 n18
        have c18 := c18x
        clear c18x
        clear hown5 hgrow5 hl5 hlt5
        refine hK.out _ _ HK.out.l (fun hHeld => ?_)
        clear hK K
        refine wpAnyH_take (i := 20) (v := ?vu133) (by rw [List.getElem?_toArray]; rfl) (by kernel_rfl) (by kernel_rfl) (by kernel_rfl) ?ku133 (Or.inl ⟨by rfl, ?yu133⟩) hHeld ?ru133
        case ku133 => exact fun c a w h => hP c a _ _ w h
        case yu133 => (intro wz hSw; clear hSw; go_simp; try (with_reducible rfl))
        simp only [Act.put, List.setIfInBounds_toArray, List.set_cons_zero, List.set_cons_succ]
        refine wpAnyH_ready (rs := [19]) (by kernel_rfl) (by simp) ?_
        refine AllReadyH.cons (by rw [List.getElem?_toArray]; rfl) (fun K hK => ?_) AllReadyH.nil
        clear hHeld
        rw [if_pos (by rfl)]
        refine wp_append_lies _ _ _ 23 rfl B 3 i0 (.int .i64 0) 1 8 Try.underlying23 hi hz0 hz1 hz2 rfl (by decide) vV k _ rfl HK.out.rv ⟨p18, 0, none⟩ 1 1 [(.int .i64 x17)] rfl rfl (one_news c18.out) (by simp [Value.oneCell']) (by decide) (by unfold maxLen; omega) (by omega) HK.out.sz _ rfl ?_
        intro g6 cap6 w6 hown6 hgrow6 hl6 hlt6
        have HKd := Lib.hid (HK.out.addV HY17.out hown6 hgrow6 hl6)
        clear HK
        have HK := HKd
        clear HKd c18
        clear hown6 hgrow6 hl6 hlt6
        refine hK.out _ _ HK.out.l (fun hHeld => ?_)
        clear hK K
        refine wpAnyH_ready (rs := [21]) (by kernel_rfl) (by simp) ?_
        refine AllReadyH.cons (by rw [List.getElem?_toArray]; rfl) (fun K hK => ?_) AllReadyH.nil
        have c5 := cell_of_row _ gi 3 _ 26 _ HK.out.box
        have f5 : World.frozen? _ ⟨gi, 3, none⟩ = false := frozen_of_row _ gi 3 _ 26 HK.out.box
        simp at c5
        clear hHeld
        go_simp
        have HKd := Lib.hid (kr_put HK.out 3 (.slice (some ⟨g5, 0, none⟩) (k + 1) cap5) rfl)
        clear HK
        have HK := HKd
        clear HKd
        refine hK.out _ _ HK.out.l (fun hHeld => ?_)
        clear hK K c5 f5
        refine wpAnyH_take (i := 22) (v := ?vu134) (by rw [List.getElem?_toArray]; rfl) (by kernel_rfl) (by kernel_rfl) (by kernel_rfl) ?ku134 (Or.inl ⟨by rfl, ?yu134⟩) hHeld ?ru134
        case ku134 => exact fun c a w h => hP c a _ _ w h
        case yu134 => (intro wz hSw; clear hSw; go_simp; try (with_reducible rfl))
        simp only [Act.put, List.setIfInBounds_toArray, List.set_cons_zero, List.set_cons_succ]
        refine wpAnyH_ready (rs := [23]) (by kernel_rfl) (by simp) ?_
        refine AllReadyH.cons (by rw [List.getElem?_toArray]; rfl) (fun K hK => ?_) AllReadyH.nil
        have c5 := cell_of_row _ gi 4 _ 26 _ HK.out.box
        have f5 : World.frozen? _ ⟨gi, 4, none⟩ = false := frozen_of_row _ gi 4 _ 26 HK.out.box
        simp at c5
        clear hHeld
        go_simp
        have HKd := Lib.hid (kr_put HK.out 4 (.slice (some ⟨g6, 0, none⟩) (k + 1) cap6) rfl)
        clear HK
        have HK := HKd
        clear HKd
        refine hK.out _ _ HK.out.l (fun hHeld => ?_)
        clear hK K c5 f5 hHeld
        refine wpAnyH_done (by kernel_rfl) ?_ _
        exact HRT.out _ _ _ _ _ _ _ _ _ _ _ _ _ _ _ _ _ _ _ _ _ _ _ _ _ _ _ HK.out
      · clear hHeld
        go_simp
        have c8 := Lib.hid (one_new vu116 (.int .i64 x7))
        have c18x := Lib.hid (one_alloc c18.out (.cells #[(.int .i64 x7)] 3))
        clear c18
        have c18 := c18x
        clear c18x
        have HKd := Lib.hid (HK.out.alloc (.cells #[(.int .i64 x7)] 3))
        clear HK
        have HK := HKd
        clear HKd
        refine hK.out _ _ HK.out.l (fun hHeld => ?_)
        clear hK K
        generalize (vu116.alloc (.cells #[(.int .i64 x7)] 3)) = vu135 at *
        generalize vu116.heap.size = p8 at *
        refine wpAnyH_ready (rs := [1]) (by kernel_rfl) (by simp) ?_
        refine AllReadyH.cons (by rw [List.getElem?_toArray]; rfl) (fun K hK => ?_) AllReadyH.nil
        have c5 : vu135.cell? ⟨gi, 3, none⟩ = some vW := cell_of_row _ gi 3 _ 26 _ HK.out.box
        clear hHeld
        go_simp
        refine hK.out _ _ HK.out.l (fun hHeld => ?_)
        clear hK K c5
        refine wpAnyH_ready (rs := [9]) (by kernel_rfl) (by simp) ?_
        refine AllReadyH.cons (by rw [List.getElem?_toArray]; rfl) (fun K hK => ?_) AllReadyH.nil
        clear hHeld
        rw [if_pos (by rfl)]
        refine wp_append_lies _ _ _ 23 rfl B 3 i0 (.int .i64 0) 1 8 Try.underlying23 hi hz0 hz1 hz2 rfl (by decide) vW k _ rfl HK.out.rw ⟨p8, 0, none⟩ 1 1 [(.int .i64 x7)] rfl rfl (one_news c8.out) (by simp [Value.oneCell']) (by decide) (by unfold maxLen; omega) (by omega) HK.out.sz _ rfl ?_
        intro g5 cap5 w5 hown5 hgrow5 hl5 hlt5
        have HKd := Lib.hid (HK.out.addW HY7.out hown5 hgrow5 hl5)
        clear HK
        have HK := HKd
        clear HKd c8
        have c18x := Lib.hid (one_kept c18.out hgrow5 n18.out)
        clear c18 n18
        have c18 := c18x
        clear c18x
        clear hown5 hgrow5 hl5 hlt5
        refine hK.out _ _ HK.out.l (fun hHeld => ?_)
        clear hK K
        refine wpAnyH_take (i := 20) (v := ?vu136) (by rw [List.getElem?_toArray]; rfl) (by kernel_rfl) (by kernel_rfl) (by kernel_rfl) ?ku136 (Or.inl ⟨by rfl, ?yu136⟩) hHeld ?ru136
        case ku136 => exact fun c a w h => hP c a _ _ w h
        case yu136 => (intro wz hSw; clear hSw; go_simp; try (with_reducible rfl))
        simp only [Act.put, List.setIfInBounds_toArray, List.set_cons_zero, List.set_cons_succ]
        refine wpAnyH_ready (rs := [19]) (by kernel_rfl) (by simp) ?_
        refine AllReadyH.cons (by rw [List.getElem?_toArray]; rfl) (fun K hK => ?_) AllReadyH.nil
        clear hHeld
        rw [if_pos (by rfl)]
        refine wp_append_lies _ _ _ 23 rfl B 3 i0 (.int .i64 0) 1 8 Try.underlying23 hi hz0 hz1 hz2 rfl (by decide) vV k _ rfl HK.out.rv ⟨p18, 0, none⟩ 1 1 [(.int .i64 x17)] rfl rfl (one_news c18.out) (by simp [Value.oneCell']) (by decide) (by unfold maxLen; omega) (by omega) HK.out.sz _ rfl ?_
        intro g6 cap6 w6 hown6 hgrow6 hl6 hlt6
        have HKd := Lib.hid (HK.out.addV HY17.out hown6 hgrow6 hl6)
        clear HK
        have HK := HKd
        clear HKd c18
        clear hown6 hgrow6 hl6 hlt6
        refine hK.out _ _ HK.out.l (fun hHeld => ?_)
        clear hK K
        refine wpAnyH_ready (rs := [21]) (by kernel_rfl) (by simp) ?_
        refine AllReadyH.cons (by rw [List.getElem?_toArray]; rfl) (fun K hK => ?_) AllReadyH.nil
        have c5 := cell_of_row _ gi 3 _ 26 _ HK.out.box
        have f5 : World.frozen? _ ⟨gi, 3, none⟩ = false := frozen_of_row _ gi 3 _ 26 HK.out.box
        simp at c5
        clear hHeld
        go_simp
        have HKd := Lib.hid (kr_put HK.out 3 (.slice (some ⟨g5, 0, none⟩) (k + 1) cap5) rfl)
        clear HK
        have HK := HKd
        clear HKd
        refine hK.out _ _ HK.out.l (fun hHeld => ?_)
        clear hK K c5 f5
        refine wpAnyH_take (i := 22) (v := ?vu137) (by rw [List.getElem?_toArray]; rfl) (by kernel_rfl) (by kernel_rfl) (by kernel_rfl) ?ku137 (Or.inl ⟨by rfl, ?yu137⟩) hHeld ?ru137
        case ku137 => exact fun c a w h => hP c a _ _ w h
        case yu137 => (intro wz hSw; clear hSw; go_simp; try (with_reducible rfl))
        simp only [Act.put, List.setIfInBounds_toArray, List.set_cons_zero, List.set_cons_succ]
        refine wpAnyH_ready (rs := [23]) (by kernel_rfl) (by simp) ?_
        refine AllReadyH.cons (by rw [List.getElem?_toArray]; rfl) (fun K hK => ?_) AllReadyH.nil
        have c5 := cell_of_row _ gi 4 _ 26 _ HK.out.box
        have f5 : World.frozen? _ ⟨gi, 4, none⟩ = false := frozen_of_row _ gi 4 _ 26 HK.out.box
        simp at c5
        clear hHeld
        go_simp
        have HKd := Lib.hid (kr_put HK.out 4 (.slice (some ⟨g6, 0, none⟩) (k + 1) cap6) rfl)
        clear HK
        have HK := HKd
        clear HKd
        refine hK.out _ _ HK.out.l (fun hHeld => ?_)
        clear hK K c5 f5 hHeld
        refine wpAnyH_done (by kernel_rfl) ?_ _
        exact HRT.out _ _ _ _ _ _ _ _ _ _ _ _ _ _ _ _ _ _ _ _ _ _ _ _ _ _ _ HK.out
end Go.Proofs.Ytjojdpohifdghaa
