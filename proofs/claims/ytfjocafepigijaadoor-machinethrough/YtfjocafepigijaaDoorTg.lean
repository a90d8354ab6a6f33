/- The document's ThroughCost: a round over the arcs of the second machine, at an arc of the first one that writes. Conditions: numbers are small. -/
import Derived.Test.YtfjocafepigijaaDoorSkM
import Derived.Test.YtfjocafepigijaaDoorTf
import Derived.Deep.LoopGhost
import Derived.Deep.QuietTactic
import Derived.BigQuiet
import Derived.Deep.RegionHeld
import Derived.Deep.CutRange
import Derived.Deep.RegionHeld3
namespace Go.Proofs.YtfjocafepigijaaDoor.Tc
open Go.RowKit Mv Wk Bw Th CR

noncomputable def bodyY : Code := ((Tryd.f16.body.map loops).getD []).getD 6 .skip
structure EnvY (SA SB N : Nat) (a b : M) (inn out : List Int) (ao : Option Addr) (w : World) (i1 j1 r1 s s2 x : Nat) (I0 O0 : Int) : Prop where
 hA : SA ≤ 40
 hB : SB ≤ 40
 hn : inn.length ≤ 8
 hk : out.length ≤ 8
 hl : b.arcs.length ≤ 120
 hi : i1 < inn.length + 1
 hj : j1 < out.length + 1
 hr : r1 < inn.length + 1
 hs : s < SA
 hs2 : s2 < SA
 hx : x ≤ 1000000
 hN : N = SA * SB * (inn.length + 1) * (out.length + 1)
 arc : ∀ y (h : y < b.arcs.length), ∃ t t2 yw : Nat, ∃ I O : Int, b.arcs[y] = ((t : Int), (t2 : Int), I, O, (yw : Int)) ∧ t < SB ∧ t2 < SB ∧ yw ≤ 1000000 ∧ 0 ≤ O
 mem : ∀ g ∈ b.arcs, g.2.2.1 = O0 → eX SB ((s : Int), (s2 : Int), I0, O0, (x : Int)) g ∈ (prM a b SA SB).arcs
 mv : (I0 = 0 ∧ r1 = i1) ∨ (0 < I0 ∧ inn[i1]? = some I0 ∧ r1 = i1 + 1)
 lo : out.length = 0 ∨ ∃ bo oo, ao = some ⟨bo, oo, none⟩ ∧ bo < w.heap.size ∧ ∀ j u, (out.map (Value.int .i64))[j]? = some u → w.cell? ⟨bo, oo + j, none⟩ = some u
theorem ex_1 (SB s s2 x t t2 y : Nat) (I0 O0 I O : Int) : (eX SB ((s : Int), (s2 : Int), I0, O0, (x : Int)) ((t : Int), (t2 : Int), I, O, (y : Int))).1 = ((s * SB + t : Nat) : Int) := by simp [eX]
theorem ex_2 (SB s s2 x t t2 y : Nat) (I0 O0 I O : Int) : (eX SB ((s : Int), (s2 : Int), I0, O0, (x : Int)) ((t : Int), (t2 : Int), I, O, (y : Int))).2.1 = ((s2 * SB + t2 : Nat) : Int) := by simp [eX]
theorem ex_5 (SB s s2 x t t2 y : Nat) (I0 O0 I O : Int) : (eX SB ((s : Int), (s2 : Int), I0, O0, (x : Int)) ((t : Int), (t2 : Int), I, O, (y : Int))).2.2.2.2 = ((x + y : Nat) : Int) := by simp [eX]
theorem Tt.old {w wr : World} {ra rb : Array Value} {n k N : Nat} {B : List Nat} {ag : Bool} (h : Tt w wr ra rb n k N B ag) {g q : Nat} (hg : g < w.heap.size) : wr.cell? ⟨g, q, none⟩ = w.cell? ⟨g, q, none⟩ := h.bel.cell (p := ⟨g, q, none⟩) hg
set_option maxHeartbeats 8000000 in
set_option maxRecDepth 1000000 in
theorem loopY (SA SB N : Nat) (a b : M) (inn out : List Int) (ai ao : Option Addr) (ci co : Nat) (ra rb : Array Value) (w wi : World) (B0 B : List Nat) (ag : Bool) (i1 j1 r1 s s2 x bx : Nat) (I0 O0 : Int) (ab : Option Addr) (cb : Nat) (DT : A5 → Nat → Nat → Nat → Prop) (c0 c1 c6 c7 c8 c12 c16 c19 c22 c23 c28 c29 c30 c31 c32 c33 c34 c35 c36 c37 c38 c39 c40 c41 c42 c43 c44 c45 c46 c47 c48 c49 c50 c51 c52 c53 c54 c55 c56 c57 c58 c59 c60 c61 c62 c63 c64 c65 c66 c67 c68 c69 c70 c71 c72 c73 c74 c75 c76 c77 c78 c79 c80 c81 c82 c83 c84 c85 c86 c87 c88 c89 c90 c91 c92 c93 c94 c95 c96 c97 c98 c99 c100 c101 c102 c103 c104 c105 c106 c107 c108 c109 c110 c111 c112 c113 c114 c115 c116 c117 c118 c119 c120 c121 c122 c123 c124 c125 c126 c127 c128 c129 c130 c131 c132 c133 c134 c135 c136 c137 c138 c139 c140 c141 c142 c143 c144 c211 c212 c213 c214 c215 c216 c217 c218 c219 c220 c221 c222 c223 c224 c225 c226 c227 c228 c229 c230 c231 c232 c233 c234 c235 c236 c237 c238 c239 c240 c241 c242 c243 c244 c245 c246 c247 c248 c249 c250 c251 c252 c253 c254 c255 c256 c257 c258 c259 c260 c261 c262 c263 c264 c265 c266 c267 c268 c269 c270 c271 c272 c273 c274 c275 c276 c277 c278 c279 c280 c281 c282 c283 c284 c285 c286 c287 c288 c289 c290 c291 c292 c293 c294 c295 c296 c297 c298 c299 c300 c301 c302 c303 c304 c305 c306 c307 c308 c309 c310 c311 c312 c313 c314 c315 c316 c317 c318 c319 c320 c321 c322 c323 c324 c325 c326 c327 c328 c329 c330 c331 c332 c333 : Value) (u25 u26 u27 u145 u146 u147 u148 u149 u150 u151 u152 u153 u154 u155 u156 u157 u158 u159 u160 u161 u162 u163 u164 u165 u166 u167 u168 u169 u170 u171 u172 u173 u174 u175 u176 u177 u178 u179 u180 u181 u182 u183 u184 u185 u186 u187 u188 u189 u190 u191 u192 u193 u194 u195 u196 u197 u198 u199 u200 u201 u202 u203 u204 u205 u206 u207 u208 u209 u210 : Value)
  (HE : Hid (EnvY SA SB N a b inn out ao w i1 j1 r1 s s2 x I0 O0)) (h5 : rb[0]? = some (.int .i64 (SB : Int))) (h51 : rb[1]? = some (.slice ab b.arcs.length cb)) (hbn : w.heap.size + 7 ≤ bx)
  (HRW : Hid (b.arcs.length = 0 ∨ ∃ bb off, ab = some ⟨bb, off, none⟩ ∧ bb < w.heap.size ∧ ∀ j u, (acs b.arcs)[j]? = some u → w.cell? ⟨bb, off + j, none⟩ = some u))
  (HD : Hid (∀ y (h : y < b.arcs.length) e i j, DT e i j (y + 1) → DT e i j y ∨ ((b.arcs[y]).2.2.1 = O0 ∧ e = eX SB ((s : Int), (s2 : Int), I0, O0, (x : Int)) b.arcs[y] ∧ i = i1 ∧ j = j1)))
  (ht : Tt w wi ra rb (inn.length + 1) (out.length + 1) N B ag) (hbox : wi.heap[bx]? = some (.cells #[.int .i64 (s : Int), .int .i64 (s2 : Int), .int .i64 I0, .int .i64 O0, .int .i64 (x : Int)] 64 (0, 0))) (HV : Hid (InvP (prM a b SA SB) inn out true (SA * SB) B)) (HP : Hid (Pas inn out B0 ag B fun e i j => DT e i j 0)) (Q0 : Exit → Act → World → Prop)
  (hexit : ∀ (B : List Nat) (ag : Bool) (wr : World) (v25 v26 v27 v145 v146 v147 v148 v149 v150 v151 v152 v153 v154 v155 v156 v157 v158 v159 v160 v161 v162 v163 v164 v165 v166 v167 v168 v169 v170 v171 v172 v173 v174 v175 v176 v177 v178 v179 v180 v181 v182 v183 v184 v185 v186 v187 v188 v189 v190 v191 v192 v193 v194 v195 v196 v197 v198 v199 v200 v201 v202 v203 v204 v205 v206 v207 v208 v209 v210 : Value), Tt w wr ra rb (inn.length + 1) (out.length + 1) N B ag → wr.heap[bx]? = some (.cells #[.int .i64 (s : Int), .int .i64 (s2 : Int), .int .i64 I0, .int .i64 O0, .int .i64 (x : Int)] 64 (0, 0)) → InvP (prM a b SA SB) inn out true (SA * SB) B → Pas inn out B0 ag B (fun e i j => DT e i j b.arcs.length) → Q0 (.exit 12) ⟨#[c0, c1, .slice ai inn.length ci, .slice ao out.length co, .pointer (some ⟨w.heap.size, 0, none⟩), .pointer (some ⟨w.heap.size + 1, 0, none⟩), c6, c7, c8, .pointer (some ⟨w.heap.size + 2, 0, none⟩), .pointer (some ⟨w.heap.size + 3, 0, none⟩), .pointer (some ⟨w.heap.size + 5, 0, none⟩), c12, .func (.func 35) #[] #[.pointer (some ⟨w.heap.size + 1, 0, none⟩), .pointer (some ⟨w.heap.size + 2, 0, none⟩), .pointer (some ⟨w.heap.size + 3, 0, none⟩)], .pointer (some ⟨w.heap.size + 6, 0, none⟩), .func (.func 36) #[] #[.pointer (some ⟨w.heap.size + 5, 0, none⟩), .pointer (some ⟨w.heap.size + 6, 0, none⟩)], c16, .int .i64 (i1 : Int), .int .i64 (j1 : Int), c19, .pointer (some ⟨bx, 0, none⟩), .int .i64 (r1 : Int), c22, c23, .int .i64 (b.arcs.length : Int), v25, v26, v27, c28, c29, c30, c31, c32, c33, c34, c35, c36, c37, c38, c39, c40, c41, c42, c43, c44, c45, c46, c47, c48, c49, c50, c51, c52, c53, c54, c55, c56, c57, c58, c59, c60, c61, c62, c63, c64, c65, c66, c67, c68, c69, c70, c71, c72, c73, c74, c75, c76, c77, c78, c79, c80, c81, c82, c83, c84, c85, c86, c87, c88, c89, c90, c91, c92, c93, c94, c95, c96, c97, c98, c99, c100, c101, c102, c103, c104, c105, c106, c107, c108, c109, c110, c111, c112, c113, c114, c115, c116, c117, c118, c119, c120, c121, c122, c123, c124, c125, c126, c127, c128, c129, c130, c131, c132, c133, c134, c135, c136, c137, c138, c139, c140, c141, c142, c143, c144, v145, v146, v147, v148, v149, v150, v151, v152, v153, v154, v155, v156, v157, v158, v159, v160, v161, v162, v163, v164, v165, v166, v167, v168, v169, v170, v171, v172, v173, v174, v175, v176, v177, v178, v179, v180, v181, v182, v183, v184, v185, v186, v187, v188, v189, v190, v191, v192, v193, v194, v195, v196, v197, v198, v199, v200, v201, v202, v203, v204, v205, v206, v207, v208, v209, v210, c211, c212, c213, c214, c215, c216, c217, c218, c219, c220, c221, c222, c223, c224, c225, c226, c227, c228, c229, c230, c231, c232, c233, c234, c235, c236, c237, c238, c239, c240, c241, c242, c243, c244, c245, c246, c247, c248, c249, c250, c251, c252, c253, c254, c255, c256, c257, c258, c259, c260, c261, c262, c263, c264, c265, c266, c267, c268, c269, c270, c271, c272, c273, c274, c275, c276, c277, c278, c279, c280, c281, c282, c283, c284, c285, c286, c287, c288, c289, c290, c291, c292, c293, c294, c295, c296, c297, c298, c299, c300, c301, c302, c303, c304, c305, c306, c307, c308, c309, c310, c311, c312, c313, c314, c315, c316, c317, c318, c319, c320, c321, c322, c323, c324, c325, c326, c327, c328, c329, c330, c331, c332, c333], []⟩ wr) :
  Code.wp Tryd.prog (Code.loop bodyY) Q0 ⟨#[c0, c1, .slice ai inn.length ci, .slice ao out.length co, .pointer (some ⟨w.heap.size, 0, none⟩), .pointer (some ⟨w.heap.size + 1, 0, none⟩), c6, c7, c8, .pointer (some ⟨w.heap.size + 2, 0, none⟩), .pointer (some ⟨w.heap.size + 3, 0, none⟩), .pointer (some ⟨w.heap.size + 5, 0, none⟩), c12, .func (.func 35) #[] #[.pointer (some ⟨w.heap.size + 1, 0, none⟩), .pointer (some ⟨w.heap.size + 2, 0, none⟩), .pointer (some ⟨w.heap.size + 3, 0, none⟩)], .pointer (some ⟨w.heap.size + 6, 0, none⟩), .func (.func 36) #[] #[.pointer (some ⟨w.heap.size + 5, 0, none⟩), .pointer (some ⟨w.heap.size + 6, 0, none⟩)], c16, .int .i64 (i1 : Int), .int .i64 (j1 : Int), c19, .pointer (some ⟨bx, 0, none⟩), .int .i64 (r1 : Int), c22, c23, .int .i64 0, u25, u26, u27, c28, c29, c30, c31, c32, c33, c34, c35, c36, c37, c38, c39, c40, c41, c42, c43, c44, c45, c46, c47, c48, c49, c50, c51, c52, c53, c54, c55, c56, c57, c58, c59, c60, c61, c62, c63, c64, c65, c66, c67, c68, c69, c70, c71, c72, c73, c74, c75, c76, c77, c78, c79, c80, c81, c82, c83, c84, c85, c86, c87, c88, c89, c90, c91, c92, c93, c94, c95, c96, c97, c98, c99, c100, c101, c102, c103, c104, c105, c106, c107, c108, c109, c110, c111, c112, c113, c114, c115, c116, c117, c118, c119, c120, c121, c122, c123, c124, c125, c126, c127, c128, c129, c130, c131, c132, c133, c134, c135, c136, c137, c138, c139, c140, c141, c142, c143, c144, u145, u146, u147, u148, u149, u150, u151, u152, u153, u154, u155, u156, u157, u158, u159, u160, u161, u162, u163, u164, u165, u166, u167, u168, u169, u170, u171, u172, u173, u174, u175, u176, u177, u178, u179, u180, u181, u182, u183, u184, u185, u186, u187, u188, u189, u190, u191, u192, u193, u194, u195, u196, u197, u198, u199, u200, u201, u202, u203, u204, u205, u206, u207, u208, u209, u210, c211, c212, c213, c214, c215, c216, c217, c218, c219, c220, c221, c222, c223, c224, c225, c226, c227, c228, c229, c230, c231, c232, c233, c234, c235, c236, c237, c238, c239, c240, c241, c242, c243, c244, c245, c246, c247, c248, c249, c250, c251, c252, c253, c254, c255, c256, c257, c258, c259, c260, c261, c262, c263, c264, c265, c266, c267, c268, c269, c270, c271, c272, c273, c274, c275, c276, c277, c278, c279, c280, c281, c282, c283, c284, c285, c286, c287, c288, c289, c290, c291, c292, c293, c294, c295, c296, c297, c298, c299, c300, c301, c302, c303, c304, c305, c306, c307, c308, c309, c310, c311, c312, c313, c314, c315, c316, c317, c318, c319, c320, c321, c322, c323, c324, c325, c326, c327, c328, c329, c330, c331, c332, c333], []⟩ wi := by
 dsimp only at hexit ⊢
 conv => arg 2; arg 1; whnf
 have HX : Hid _ := hexit
 clear hexit
 go_loopw [24] (fun tv wr => ∃ (B : List Nat) (ag : Bool) (y1 : Nat), tv = .int .i64 (y1 : Int) ∧ y1 ≤ b.arcs.length ∧ Tt w wr ra rb (inn.length + 1) (out.length + 1) N B ag ∧ wr.heap[bx]? = some (.cells #[.int .i64 (s : Int), .int .i64 (s2 : Int), .int .i64 I0, .int .i64 O0, .int .i64 (x : Int)] 64 (0, 0)) ∧ InvP (prM a b SA SB) inn out true (SA * SB) B ∧ Pas inn out B0 ag B (fun e i j => DT e i j y1)) (fun tv _ => b.arcs.length - (intOf tv).toNat)
 case atStart => exact ⟨B, ag, 0, rfl, Nat.zero_le _, ht, hbox, HV.out, HP.out⟩
 case round =>
  clear ht hbox HP HV
  obtain ⟨B, ag, y1, rfl, hyl0, htt, hbox, hinv, hpas⟩ := hrel
  have HTT0 : Hid (Tt w wr ra rb (inn.length + 1) (out.length + 1) N B ag) := htt
  have HV : Hid (InvP (prM a b SA SB) inn out true (SA * SB) B) := hinv
  have HP : Hid (Pas inn out B0 ag B fun e i j => DT e i j y1) := hpas
  have u51 : wr.cell? ⟨w.heap.size + 1, 1, none⟩ = some (.slice ab b.arcs.length cb) := (cell_of_row _ _ 1 _ _ _ htt.x5).trans h51
  have hl120 : b.arcs.length ≤ 120 := HE.out.hl
  clear htt hinv hpas
  by_cases hyl : y1 < b.arcs.length
  ·have hyl' : (y1 : Int) < (b.arcs.length : Int) := by omega
   obtain ⟨bb, off, rfl, hbb, hcc⟩ : ∃ bb off, ab = some ⟨bb, off, none⟩ ∧ bb < w.heap.size ∧ ∀ j u, (acs b.arcs)[j]? = some u → w.cell? ⟨bb, off + j, none⟩ = some u := HRW.out.resolve_left (by omega)
   obtain ⟨t, t2, y, I, O, hy, htB, ht2B, hyw, hO0⟩ := HE.out.arc y1 hyl
   have HYM : Hid (b.arcs[y1] = ((t : Int), (t2 : Int), I, O, (y : Int))) := hy
   have HYB : Hid (t < SB ∧ t2 < SB ∧ y ≤ 1000000) := ⟨htB, ht2B, hyw⟩
   have HDA : Hid _ := HD.out y1 hyl
   have hat := acs_at b.arcs y1 hyl
   rw [hy] at hat
   have a0 := (HTT0.out.old (q := off + y1 * 5) hbb).trans (hcc _ _ hat.1)
   have a1 := (HTT0.out.old (q := off + (y1 * 5 + 1)) hbb).trans (hcc _ _ hat.2.1)
   have a2 := (HTT0.out.old (q := off + (y1 * 5 + 2)) hbb).trans (hcc _ _ hat.2.2.1)
   have a3 := (HTT0.out.old (q := off + (y1 * 5 + 3)) hbb).trans (hcc _ _ hat.2.2.2.1)
   have a4 := (HTT0.out.old (q := off + (y1 * 5 + 4)) hbb).trans (hcc _ _ hat.2.2.2.2)
   simp only [← Nat.add_assoc] at a1 a2 a3 a4
   clear hy htB ht2B hyw hat hcc
   go_upto_region 41 with fail
   have hbx2 := heap_alloc_new wr (.cells #[.int .i64 (t : Int), .int .i64 (t2 : Int), .int .i64 I, .int .i64 O, .int .i64 (y : Int)] 64)
   have HTT : Hid (Tt w (wr.alloc (.cells #[.int .i64 (t : Int), .int .i64 (t2 : Int), .int .i64 I, .int .i64 O, .int .i64 (y : Int)] 64)) ra rb (inn.length + 1) (out.length + 1) N B ag) := HTT0.out.alloc _
   have hbox := (heap_alloc_old wr (.cells #[.int .i64 (t : Int), .int .i64 (t2 : Int), .int .i64 I, .int .i64 O, .int .i64 (y : Int)] 64) (lt_get hbox)).trans hbox
   have hb7 : w.heap.size + 7 ≤ wr.heap.size := lt_get HTT0.out.x14
   clear a0 a1 a2 a3 a4 u51 HTT0
   generalize hV : wr.alloc (.cells #[.int .i64 (t : Int), .int .i64 (t2 : Int), .int .i64 I, .int .i64 O, .int .i64 (y : Int)] 64) = wr2 at *
   clear hV
   generalize wr.heap.size = bx2 at *
   have u5 : wr2.cell? ⟨w.heap.size + 1, 0, none⟩ = some (.int .i64 (SB : Int)) := (cell_of_row _ _ 0 _ _ _ HTT.out.x5).trans h5
   have u9 := cell_of_row _ _ 0 _ _ _ HTT.out.x9
   have u10 := cell_of_row _ _ 0 _ _ _ HTT.out.x10
   have u11 := cell_of_row _ _ 0 _ _ _ HTT.out.x11
   have k8 := cell_of_row _ _ 0 _ _ _ hbox
   have k0 := cell_of_row _ _ 1 _ _ _ hbox
   have k7 := cell_of_row _ _ 3 _ _ _ hbox
   have k2 := cell_of_row _ _ 4 _ _ _ hbox
   have k9 := cell_of_row _ _ 0 _ _ _ hbx2
   have k1 := cell_of_row _ _ 1 _ _ _ hbx2
   have k6 := cell_of_row _ _ 2 _ _ _ hbx2
   have k5 := cell_of_row _ _ 3 _ _ _ hbx2
   have k3 := cell_of_row _ _ 4 _ _ _ hbx2
   have h6bx : bx ≠ w.heap.size + 6 := by omega
   have hGbx : bx ≠ w.heap.size + 4 := by omega
   have h6bx2 : bx2 ≠ w.heap.size + 6 := by omega
   have hGbx2 : bx2 ≠ w.heap.size + 4 := by omega
   by_cases hIO : I = O0
   ·have bIO : (I != O0) = false := by simp [hIO]
    by_cases hO : 0 < O
    ·by_cases hjo : j1 < out.length
     ·have bj : ((j1 : Int) == (out.length : Int)) = false := by simp; omega
      obtain ⟨bo, oo, rfl, hbo, hco⟩ : ∃ bo oo, ao = some ⟨bo, oo, none⟩ ∧ bo < w.heap.size ∧ ∀ j u, (out.map (Value.int .i64))[j]? = some u → w.cell? ⟨bo, oo + j, none⟩ = some u := HE.out.lo.resolve_left (by omega)
      have o1 := (HTT.out.old (q := oo + j1) hbo).trans (hco j1 (.int .i64 out[j1]) (by simp [hjo]))
      have hjo' : (j1 : Int) < (out.length : Int) := by omega
      obtain ⟨oj, hoj⟩ : ∃ oj, out[j1] = oj := ⟨_, rfl⟩
      have HOJ : Hid (out[j1]? = some oj) := by show _ = _; rw [List.getElem?_eq_getElem hjo, hoj]
      rw [hoj] at o1
      clear hco hoj
      by_cases hm : oj = O
      ·have bm : (oj != O) = false := by simp [hm]
       have HW1 : Hid (j1 + 1 < out.length + 1) := by show _ < _; omega
       have hj20 : j1 ≤ 20 := by have := HE.out.hk; omega
       have HMV : Hid (Wk.Move inn out true (eX SB ((s : Int), (s2 : Int), I0, O0, (x : Int)) ((t : Int), (t2 : Int), I, O, (y : Int))) i1 j1 r1 (j1 + 1)) := ⟨by simpa [eX] using HE.out.mv, .inr ⟨hO, rfl, by rw [HOJ.out, hm]; rfl, rfl⟩⟩
       have HEM : Hid (eX SB ((s : Int), (s2 : Int), I0, O0, (x : Int)) ((t : Int), (t2 : Int), I, O, (y : Int)) ∈ (prM a b SA SB).arcs) := HE.out.mem _ (HYM.out ▸ List.getElem_mem hyl) hIO
       have HDN : Hid (∀ e i j, DT e i j (y1 + 1) → DT e i j y1 ∨ (e = eX SB ((s : Int), (s2 : Int), I0, O0, (x : Int)) ((t : Int), (t2 : Int), I, O, (y : Int)) ∧ i = i1 ∧ j = j1)) := fun e i j h => ((HDA.out e i j h).imp id fun h => ⟨by rw [h.2.1, HYM.out], h.2.2⟩)
       have HBW : Hid (x + y ≤ 2000000) := by show _ ≤ _; have := HE.out.hx; have := HYB.out.2.2; omega
       have HBJ : Hid (j1 ≤ 20) := by show _ ≤ _; have := HE.out.hj; have := HE.out.hk; omega
       have HBD : Hid (SB ≤ 40 ∧ s ≤ 40 ∧ t ≤ 40 ∧ inn.length + 1 ≤ 20 ∧ i1 ≤ 20 ∧ out.length + 1 ≤ 20 ∧ s2 ≤ 40 ∧ t2 ≤ 40 ∧ r1 ≤ 20 ∧ j1 + 1 ≤ 20) := by
        show _ ∧ _
        have := HE.out.hA; have := HE.out.hB; have := HE.out.hs; have := HE.out.hs2; have := HYB.out.1; have := HYB.out.2.1; have := HE.out.hn; have := HE.out.hi; have := HE.out.hr; have := HE.out.hk; have := HE.out.hj; have := HW1.out
        omega
       have HBL : Hid (s * SB + t < SA * SB ∧ s2 * SB + t2 < SA * SB ∧ i1 < inn.length + 1 ∧ j1 < out.length + 1 ∧ N ≤ 129600) := ⟨pair_lt HE.out.hs HYB.out.1, pair_lt HE.out.hs2 HYB.out.2.1, HE.out.hi, HE.out.hj, N_small HE.out.hA HE.out.hB (show inn.length + 1 ≤ 9 by have := HE.out.hn; omega) (show out.length + 1 ≤ 9 by have := HE.out.hk; omega) HE.out.hN⟩
       have hq1 := idx_ok HE.out.hN HE.out.hs HYB.out.1 HE.out.hi HE.out.hj
       have hq2 := idx_ok HE.out.hN HE.out.hs2 HYB.out.2.1 HE.out.hr HW1.out
       clear hm hIO
       go_upto_region 43 with fail
       go_quiet (fail)
       go_upto_region 45 with fail
       have HTT : Hid (Tt w (wr2.drewN nq) ra rb (inn.length + 1) (out.length + 1) N B ag) := HTT.out.drewN nq
       have u5 : (wr2.drewN nq).cell? ⟨w.heap.size + 1, 0, none⟩ = _ := u5
       have u9 : (wr2.drewN nq).cell? ⟨w.heap.size + 2, 0, none⟩ = _ := u9
       have u10 : (wr2.drewN nq).cell? ⟨w.heap.size + 3, 0, none⟩ = _ := u10
       have u11 : (wr2.drewN nq).cell? ⟨w.heap.size + 5, 0, none⟩ = _ := u11
       have k8 : (wr2.drewN nq).cell? ⟨bx, 0, none⟩ = _ := k8
       have k0 : (wr2.drewN nq).cell? ⟨bx, 1, none⟩ = _ := k0
       have k2 : (wr2.drewN nq).cell? ⟨bx, 4, none⟩ = _ := k2
       have k9 : (wr2.drewN nq).cell? ⟨bx2, 0, none⟩ = _ := k9
       have k1 : (wr2.drewN nq).cell? ⟨bx2, 1, none⟩ = _ := k1
       have k3 : (wr2.drewN nq).cell? ⟨bx2, 4, none⟩ = _ := k3
       have hbox : (wr2.drewN nq).heap[bx]? = _ := hbox
       generalize hVq : wr2.drewN nq = wr2 at *
       clear hVq
       obtain ⟨p, hp⟩ : ∃ p, val B (idx (inn.length + 1) (out.length + 1) (s * SB + t) i1 j1) = p := ⟨_, rfl⟩
       have HPV : Hid (val B (idx (inn.length + 1) (out.length + 1) (s * SB + t) i1 j1) = p) := hp
       have hc1 := HTT.out.cell hq1
       rw [hp] at hc1
       have KA := fun d => at_any SB s t (inn.length + 1) i1 (out.length + 1) j1 (w.heap.size + 1) (w.heap.size + 2) (w.heap.size + 3) (wr2.drewN d) u5 u9 u10 HBD.out.1 HBD.out.2.1 HBD.out.2.2.1 HBD.out.2.2.2.1 HBD.out.2.2.2.2.1 HBD.out.2.2.2.2.2.1 HBJ.out
       have hq1' : ((idx (inn.length + 1) (out.length + 1) (s * SB + t) i1 j1 : Nat) : Int) < (N : Int) := by omega
       generalize hqg : idx (inn.length + 1) (out.length + 1) (s * SB + t) i1 j1 = q1 at *
       clear hp
       go_quiet (first | (go_at_call 35; exact Calls.quiet_of_same (KA _)))
       by_cases hpd : p < dear
       ·have hpd' := lt_dearI hpd
        have HPD : Hid (val B (idx (inn.length + 1) (cols out true) (s * SB + t) i1 j1) < dear ∧ val B (idx (inn.length + 1) (cols out true) (s * SB + t) i1 j1) = p) := by show _ ∧ _; rw [show cols out true = out.length + 1 from rfl, hqg, HPV.out]; exact ⟨hpd, rfl⟩
        obtain ⟨zz, z, hz, hwp, hwp2⟩ := wrap_pp hpd (show x + y ≤ 2000000 from HBW.out)
        have HZ : Hid (z = p + (x + y)) := hz
        clear hz
        have HTD : Hid (Tt w (wr2.drewN nq) ra rb (inn.length + 1) (out.length + 1) N B ag) := HTT.out.drewN nq
        have k0 : (wr2.drewN nq).cell? ⟨bx, 1, none⟩ = _ := k0
        have k1 : (wr2.drewN nq).cell? ⟨bx2, 1, none⟩ = _ := k1
        have k2 : (wr2.drewN nq).cell? ⟨bx, 4, none⟩ = _ := k2
        have k3 : (wr2.drewN nq).cell? ⟨bx2, 4, none⟩ = _ := k3
        have u5 : (wr2.drewN nq).cell? ⟨w.heap.size + 1, 0, none⟩ = _ := u5
        have u9 : (wr2.drewN nq).cell? ⟨w.heap.size + 2, 0, none⟩ = _ := u9
        have u10 : (wr2.drewN nq).cell? ⟨w.heap.size + 3, 0, none⟩ = _ := u10
        have u11 : (wr2.drewN nq).cell? ⟨w.heap.size + 5, 0, none⟩ = _ := u11
        have hbox : (wr2.drewN nq).heap[bx]? = _ := hbox
        clear hqg HPV HTT KA hc1
        generalize hVd : wr2.drewN nq = Wd at *
        clear hVd
        go_upto_region 47 with fail
        refine wp_region_noPanic ?_
        refine wp_region_held_drew (S := fun W => W.cell? ⟨bx, 1, none⟩ = some (.int .i64 (s2 : Int)) ∧ W.cell? ⟨bx2, 1, none⟩ = some (.int .i64 (t2 : Int)) ∧ W.cell? ⟨bx, 4, none⟩ = some (.int .i64 (x : Int)) ∧ W.cell? ⟨bx2, 4, none⟩ = some (.int .i64 (y : Int))) (by kernel_rfl) (by exact ⟨k0, k1, k2, k3⟩) (fun hHeld => ?_)
        have HT0 : Hid (Tt w Wd.drew ra rb (inn.length + 1) (out.length + 1) N B ag) := HTD.out.drew
        have gk0 : Wd.drew.cell? ⟨bx, 1, none⟩ = _ := k0
        have gk1 : Wd.drew.cell? ⟨bx2, 1, none⟩ = _ := k1
        have gk2 : Wd.drew.cell? ⟨bx, 4, none⟩ = _ := k2
        have gk3 : Wd.drew.cell? ⟨bx2, 4, none⟩ = _ := k3
        have g5 : Wd.drew.cell? ⟨w.heap.size + 1, 0, none⟩ = _ := u5
        have g9 : Wd.drew.cell? ⟨w.heap.size + 2, 0, none⟩ = _ := u9
        have g10 : Wd.drew.cell? ⟨w.heap.size + 3, 0, none⟩ = _ := u10
        have g11 : Wd.drew.cell? ⟨w.heap.size + 5, 0, none⟩ = _ := u11
        have gboxbx : Wd.drew.heap[bx]? = _ := hbox
        generalize hV : Wd.drew = V0 at *
        clear hV
        refine tk (v := ?_) 0 { dst := some 194, op := .move (.tmp 15), type := 69, pos := "machine.go:167", after := #[], guard := none } (by rfl) ?_ ?_
        case refine_2 => intro w hSw; (try dsimp only at hSw); obtain ⟨zk0, zk1, zk2, zk3⟩ := hSw; go_simp; (try with_reducible rfl)
        simp only [Act.put, zS0, zS1, zS2]
        refine tk (v := ?_) 1 { dst := some 195, op := .move (.tmp 13), type := 68, pos := "machine.go:167", after := #[], guard := none } (by rfl) ?_ ?_
        case refine_2 => intro w hSw; (try dsimp only at hSw); obtain ⟨zk0, zk1, zk2, zk3⟩ := hSw; go_simp; (try with_reducible rfl)
        simp only [Act.put, zS0, zS1, zS2]
        refine tk (v := ?_) 2 { dst := some 196, op := .fieldAddr 64 (.tmp 20) 1, type := 0, pos := "machine.go:167", after := #[], guard := none } (by rfl) ?_ ?_
        case refine_2 => intro w hSw; (try dsimp only at hSw); obtain ⟨zk0, zk1, zk2, zk3⟩ := hSw; go_simp; (try with_reducible rfl)
        simp only [Act.put, zS0, zS1, zS2]
        refine tk (v := ?_) 3 { dst := some 197, op := .load 3 (.tmp 196), type := 3, pos := "machine.go:167", after := #[⟨2, .data⟩], guard := none } (by rfl) ?_ ?_
        case refine_2 => intro w hSw; (try dsimp only at hSw); obtain ⟨zk0, zk1, zk2, zk3⟩ := hSw; go_simp; (try with_reducible rfl)
        simp only [Act.put, zS0, zS1, zS2]
        refine tk (v := ?_) 4 { dst := some 198, op := .fieldAddr 64 (.tmp 25) 1, type := 0, pos := "machine.go:167", after := #[], guard := none } (by rfl) ?_ ?_
        case refine_2 => intro w hSw; (try dsimp only at hSw); obtain ⟨zk0, zk1, zk2, zk3⟩ := hSw; go_simp; (try with_reducible rfl)
        simp only [Act.put, zS0, zS1, zS2]
        refine tk (v := ?_) 5 { dst := some 199, op := .load 3 (.tmp 198), type := 3, pos := "machine.go:167", after := #[⟨4, .data⟩], guard := none } (by rfl) ?_ ?_
        case refine_2 => intro w hSw; (try dsimp only at hSw); obtain ⟨zk0, zk1, zk2, zk3⟩ := hSw; go_simp; (try with_reducible rfl)
        simp only [Act.put, zS0, zS1, zS2]
        refine tk (v := ?_) 6 { dst := some 200, op := .move (.tmp 21), type := 3, pos := "machine.go:167", after := #[], guard := none } (by rfl) ?_ ?_
        case refine_2 => intro w hSw; (try dsimp only at hSw); obtain ⟨zk0, zk1, zk2, zk3⟩ := hSw; go_simp; (try with_reducible rfl)
        simp only [Act.put, zS0, zS1, zS2]
        refine tk (v := ?_) 7 { dst := some 201, op := .move (.tmp 26), type := 3, pos := "machine.go:167", after := #[], guard := none } (by rfl) ?_ ?_
        case refine_2 => intro w hSw; (try dsimp only at hSw); obtain ⟨zk0, zk1, zk2, zk3⟩ := hSw; go_simp; (try with_reducible rfl)
        simp only [Act.put, zS0, zS1, zS2]
        refine tk (v := ?_) 9 { dst := some 203, op := .move (.tmp 27), type := 3, pos := "machine.go:167", after := #[], guard := none } (by rfl) ?_ ?_
        case refine_2 => intro w hSw; (try dsimp only at hSw); obtain ⟨zk0, zk1, zk2, zk3⟩ := hSw; go_simp; (try with_reducible rfl)
        simp only [Act.put, zS0, zS1, zS2]
        refine tk (v := ?_) 10 { dst := some 204, op := .fieldAddr 64 (.tmp 20) 4, type := 0, pos := "machine.go:167", after := #[], guard := none } (by rfl) ?_ ?_
        case refine_2 => intro w hSw; (try dsimp only at hSw); obtain ⟨zk0, zk1, zk2, zk3⟩ := hSw; go_simp; (try with_reducible rfl)
        simp only [Act.put, zS0, zS1, zS2]
        refine tk (v := ?_) 11 { dst := some 205, op := .load 3 (.tmp 204), type := 3, pos := "machine.go:167", after := #[⟨10, .data⟩], guard := none } (by rfl) ?_ ?_
        case refine_2 => intro w hSw; (try dsimp only at hSw); obtain ⟨zk0, zk1, zk2, zk3⟩ := hSw; go_simp; (try with_reducible rfl)
        simp only [Act.put, zS0, zS1, zS2]
        refine tk (v := ?_) 12 { dst := some 206, op := .binOp .add 3 (.tmp 203) (.tmp 205) 3, type := 3, pos := "machine.go:167", after := #[⟨9, .data⟩, ⟨11, .data⟩], guard := none } (by rfl) ?_ ?_
        case refine_2 => intro w hSw; (try dsimp only at hSw); obtain ⟨zk0, zk1, zk2, zk3⟩ := hSw; go_simp; (try with_reducible rfl)
        simp only [Act.put, zS0, zS1, zS2]
        refine tk (v := ?_) 13 { dst := some 207, op := .fieldAddr 64 (.tmp 25) 4, type := 0, pos := "machine.go:167", after := #[], guard := none } (by rfl) ?_ ?_
        case refine_2 => intro w hSw; (try dsimp only at hSw); obtain ⟨zk0, zk1, zk2, zk3⟩ := hSw; go_simp; (try with_reducible rfl)
        simp only [Act.put, zS0, zS1, zS2]
        refine tk (v := ?_) 14 { dst := some 208, op := .load 3 (.tmp 207), type := 3, pos := "machine.go:167", after := #[⟨13, .data⟩], guard := none } (by rfl) ?_ ?_
        case refine_2 => intro w hSw; (try dsimp only at hSw); obtain ⟨zk0, zk1, zk2, zk3⟩ := hSw; go_simp; (try with_reducible rfl)
        simp only [Act.put, zS0, zS1, zS2]
        refine tk (v := ?_) 15 { dst := some 209, op := .binOp .add 3 (.tmp 206) (.tmp 208) 3, type := 3, pos := "machine.go:167", after := #[⟨12, .data⟩, ⟨14, .data⟩], guard := none } (by rfl) ?_ ?_
        case refine_2 => intro w hSw; (try dsimp only at hSw); obtain ⟨zk0, zk1, zk2, zk3⟩ := hSw; go_simp; (try with_reducible rfl)
        simp only [Act.put, zS0, zS1, zS2]
        refine wpAnyH_ready (rs := [8]) (by kernel_rfl) (by simp) ?_
        refine (AllReadyH.cons (o := { dst := some 202, op := .call { callee := .value (.tmp 195), args := #[.tmp 197, .tmp 199, .tmp 200, .tmp 201], argTypes := #[3, 3, 3, 3] }, type := 3, pos := "machine.go:167", after := #[⟨1, .data⟩, ⟨3, .data⟩, ⟨5, .data⟩, ⟨6, .data⟩, ⟨7, .data⟩], guard := none }) rfl (fun K hK => ?_) AllReadyH.nil)
        go_simp
        have KA := at_any SB s2 t2 (inn.length + 1) r1 (out.length + 1) (j1 + 1) (w.heap.size + 1) (w.heap.size + 2) (w.heap.size + 3) V0 g5 g9 g10 HBD.out.1 HBD.out.2.2.2.2.2.2.1 HBD.out.2.2.2.2.2.2.2.1 HBD.out.2.2.2.1 HBD.out.2.2.2.2.2.2.2.2.1 HBD.out.2.2.2.2.2.1 HBD.out.2.2.2.2.2.2.2.2.2
        (try simp only [Int.natCast_add, Int.natCast_one] at KA)
        (with_reducible refine KA.mono ?_)
        clear KA
        rintro e2 w2 ⟨rfl, hw2⟩
        subst w2
        dsimp only
        refine hK.out _ _ ?_ (fun hHeld => ?_)
        ·exact ⟨gk0, gk1, gk2, gk3⟩
        clear hK K
        try simp only [Act.put, zS0, zS1, zS2]
        refine wpAnyH_ready (rs := [16]) (by kernel_rfl) (by simp) ?_
        refine (AllReadyH.cons (o := { dst := some 210, op := .call { callee := .value (.tmp 194), args := #[.tmp 202, .tmp 209], argTypes := #[3, 3] }, type := 0, pos := "machine.go:167", after := #[⟨0, .data⟩, ⟨8, .data⟩, ⟨15, .data⟩, ⟨8, .chain⟩], guard := none }) rfl (fun K hK => ?_) AllReadyH.nil)
        go_simp
        have KL := lower_any (idx (inn.length + 1) (out.length + 1) (s2 * SB + t2) r1 (j1 + 1)) N (w.heap.size + 4) (w.heap.size + 5) (w.heap.size + 6) z (val B (idx (inn.length + 1) (out.length + 1) (s2 * SB + t2) r1 (j1 + 1))) V0 g11 hq2 (HT0.out.cell hq2) (HT0.out.tab.frozenAt _) ⟨_, HT0.out.x14⟩ (by omega)
        (with_reducible refine KL.mono ?_)
        clear KL
        rintro e3 w3 ⟨rfl, hw3⟩
        dsimp only
        refine hK.out _ _ ?_ (fun hHeld => ?_)
        ·(rw [hw3]; split; exact ⟨(cell_other2 _ _ _ _ _ _ hGbx h6bx).trans gk0, (cell_other2 _ _ _ _ _ _ hGbx2 h6bx2).trans gk1, (cell_other2 _ _ _ _ _ _ hGbx h6bx).trans gk2, (cell_other2 _ _ _ _ _ _ hGbx2 h6bx2).trans gk3⟩; exact ⟨gk0, gk1, gk2, gk3⟩)
        clear hK K
        try simp only [Act.put, zS0, zS1, zS2]
        refine wpAnyH_done (by kernel_rfl) ?_ _
        refine NoPanic.normal ?_
        have hz2 := HZ.out
        subst hz2
        by_cases hlow : p + (x + y) < val B (idx (inn.length + 1) (out.length + 1) (s2 * SB + t2) r1 (j1 + 1))
        ·have HLW : Hid (val B (idx (inn.length + 1) (cols out true) (s * SB + t) i1 j1) + (x + y) < val B (idx (inn.length + 1) (cols out true) (s2 * SB + t2) r1 (j1 + 1))) := by show _ < _; rw [HPD.out.2]; exact hlow
         rw [if_pos hlow] at hw3
         have HT3 : Hid (Tt w w3 ra rb (inn.length + 1) (out.length + 1) N (B.set (idx (inn.length + 1) (out.length + 1) (s2 * SB + t2) r1 (j1 + 1)) (p + (x + y))) true) := by rw [hw3]; exact HT0.out.low _ _
         have hbxbx := (congrArg (fun W : World => W.heap[bx]?) hw3).trans (((heap_setCell_other _ _ _ _ h6bx).trans (heap_setCell_other _ _ _ _ hGbx)).trans gboxbx)
         have HL : Hid _ := look_took (fun e i j => DT e i j (y1 + 1)) HEM.out (ex_1 SB s s2 x t t2 y I0 O0 I O) (ex_2 SB s s2 x t t2 y I0 O0 I O) (ex_5 SB s s2 x t t2 y I0 O0 I O) HBW.out HBL.out.1 HBL.out.2.1 HBL.out.2.2.1 (show j1 < out.length + 1 from HBL.out.2.2.2.1) HMV.out HV.out HP.out (by rw [HTD.out.len]; have := HBL.out.2.2.2.2; omega) HPD.out.1 HLW.out
         have HL2 : Hid (InvP (prM a b SA SB) inn out true (SA * SB) (B.set (idx (inn.length + 1) (out.length + 1) (s2 * SB + t2) r1 (j1 + 1)) (p + (x + y))) ∧ Pas inn out B0 true (B.set (idx (inn.length + 1) (out.length + 1) (s2 * SB + t2) r1 (j1 + 1)) (p + (x + y))) fun e i j => DT e i j (y1 + 1)) := by have := HL.out; rw [HPD.out.2] at this; exact this
         clear hw3
         go_wp2
         go_roundw
         case rel => exact ⟨_, true, y1 + 1, by go_num, hyl, HT3.out, hbxbx, HL2.out.1, HL2.out.2⟩
         case measure => simp [intOf]; omega
        ·have HLW : Hid (¬ val B (idx (inn.length + 1) (cols out true) (s * SB + t) i1 j1) + (x + y) < val B (idx (inn.length + 1) (cols out true) (s2 * SB + t2) r1 (j1 + 1))) := by show ¬ _ < _; rw [HPD.out.2]; exact hlow
         rw [if_neg hlow] at hw3
         subst hw3
         have HL : Hid (Pas inn out B0 ag B fun e i j => DT e i j (y1 + 1)) := look_kept (ex_1 SB s s2 x t t2 y I0 O0 I O) (ex_2 SB s s2 x t t2 y I0 O0 I O) (ex_5 SB s s2 x t t2 y I0 O0 I O) HMV.out HP.out HDN.out HLW.out
         go_wp2
         go_roundw
         case rel => exact ⟨B, ag, y1 + 1, by go_num, hyl, HT0.out, gboxbx, HV.out, HL.out⟩
         case measure => simp [intOf]; omega
       ·have hpd' := ge_dearI hpd
        have HPD : Hid (val B (idx (inn.length + 1) (cols out true) (s * SB + t) i1 j1) = dear) := by show _ = _; rw [show cols out true = out.length + 1 from rfl, hqg, HPV.out]; have := HV.out.top q1; rw [HPV.out] at this; omega
        have HL : Hid (Pas inn out B0 ag B fun e i j => DT e i j (y1 + 1)) := look_dear (ex_1 SB s s2 x t t2 y I0 O0 I O) HP.out HDN.out HPD.out
        clear hqg HPV
        go_wp2
        go_roundw
        case rel => exact ⟨B, ag, y1 + 1, by go_num, hyl, (HTT.out.drewN nq), hbox, HV.out, HL.out⟩
        case measure => simp [intOf]; omega
      ·have bm : (oj != O) = true := by simp [hm]
       have HL : Hid (Pas inn out B0 ag B fun e i j => DT e i j (y1 + 1)) := look_none HP.out fun e i j h => (HDA.out e i j h).imp id fun h i2 j2 hmv => by
        obtain ⟨_, rfl, rfl, rfl⟩ := h
        rw [HYM.out] at hmv
        obtain ⟨_, hmv⟩ := hmv
        simp only [eX] at hmv
        rcases hmv with ⟨h0 | h0, _⟩ | ⟨_, _, h3, _⟩
        ·omega
        ·cases h0
        ·rw [HOJ.out] at h3
         exact hm (Option.some.inj h3)
       clear hm hIO
       go_upto_region 43 with fail
       go_quiet (fail)
       go_wp2
       go_roundw
       case rel => exact ⟨B, ag, y1 + 1, by go_num, hyl, HTT.out.drewN nq, hbox, HV.out, HL.out⟩
       case measure => simp [intOf]; omega
     ·have bj : ((j1 : Int) == (out.length : Int)) = true := by have := HE.out.hj; simp; omega
      have HL : Hid (Pas inn out B0 ag B fun e i j => DT e i j (y1 + 1)) := look_none HP.out fun e i j h => (HDA.out e i j h).imp id fun h i2 j2 hmv => by
       obtain ⟨_, rfl, rfl, rfl⟩ := h
       rw [HYM.out] at hmv
       obtain ⟨_, hmv⟩ := hmv
       simp only [eX] at hmv
       rcases hmv with ⟨h0 | h0, _⟩ | ⟨_, _, h3, _⟩
       ·omega
       ·cases h0
       ·rw [List.getElem?_eq_none (by omega)] at h3
        cases h3
      clear hIO
      go_upto_region 43 with fail
      go_quiet (fail)
      go_wp2
      go_roundw
      case rel => exact ⟨B, ag, y1 + 1, by go_num, hyl, HTT.out.drewN nq, hbox, HV.out, HL.out⟩
      case measure => simp [intOf]; omega
    ·obtain rfl : O = 0 := by omega
     have HW1 : Hid (j1 < out.length + 1) := HE.out.hj
     have HMV : Hid (Wk.Move inn out true (eX SB ((s : Int), (s2 : Int), I0, O0, (x : Int)) ((t : Int), (t2 : Int), I, 0, (y : Int))) i1 j1 r1 (j1)) := ⟨by simpa [eX] using HE.out.mv, .inl ⟨.inl rfl, rfl⟩⟩
     have HEM : Hid (eX SB ((s : Int), (s2 : Int), I0, O0, (x : Int)) ((t : Int), (t2 : Int), I, 0, (y : Int)) ∈ (prM a b SA SB).arcs) := HE.out.mem _ (HYM.out ▸ List.getElem_mem hyl) hIO
     have HDN : Hid (∀ e i j, DT e i j (y1 + 1) → DT e i j y1 ∨ (e = eX SB ((s : Int), (s2 : Int), I0, O0, (x : Int)) ((t : Int), (t2 : Int), I, 0, (y : Int)) ∧ i = i1 ∧ j = j1)) := fun e i j h => ((HDA.out e i j h).imp id fun h => ⟨by rw [h.2.1, HYM.out], h.2.2⟩)
     have HBW : Hid (x + y ≤ 2000000) := by show _ ≤ _; have := HE.out.hx; have := HYB.out.2.2; omega
     have HBJ : Hid (j1 ≤ 20) := by show _ ≤ _; have := HE.out.hj; have := HE.out.hk; omega
     have HBD : Hid (SB ≤ 40 ∧ s ≤ 40 ∧ t ≤ 40 ∧ inn.length + 1 ≤ 20 ∧ i1 ≤ 20 ∧ out.length + 1 ≤ 20 ∧ s2 ≤ 40 ∧ t2 ≤ 40 ∧ r1 ≤ 20 ∧ j1 ≤ 20) := by
      show _ ∧ _
      have := HE.out.hA; have := HE.out.hB; have := HE.out.hs; have := HE.out.hs2; have := HYB.out.1; have := HYB.out.2.1; have := HE.out.hn; have := HE.out.hi; have := HE.out.hr; have := HE.out.hk; have := HE.out.hj; have := HW1.out
      omega
     have HBL : Hid (s * SB + t < SA * SB ∧ s2 * SB + t2 < SA * SB ∧ i1 < inn.length + 1 ∧ j1 < out.length + 1 ∧ N ≤ 129600) := ⟨pair_lt HE.out.hs HYB.out.1, pair_lt HE.out.hs2 HYB.out.2.1, HE.out.hi, HE.out.hj, N_small HE.out.hA HE.out.hB (show inn.length + 1 ≤ 9 by have := HE.out.hn; omega) (show out.length + 1 ≤ 9 by have := HE.out.hk; omega) HE.out.hN⟩
     have hq1 := idx_ok HE.out.hN HE.out.hs HYB.out.1 HE.out.hi HE.out.hj
     have hq2 := idx_ok HE.out.hN HE.out.hs2 HYB.out.2.1 HE.out.hr HW1.out
     clear hO hIO
     obtain ⟨p, hp⟩ : ∃ p, val B (idx (inn.length + 1) (out.length + 1) (s * SB + t) i1 j1) = p := ⟨_, rfl⟩
     have HPV : Hid (val B (idx (inn.length + 1) (out.length + 1) (s * SB + t) i1 j1) = p) := hp
     have hc1 := HTT.out.cell hq1
     rw [hp] at hc1
     have KA := fun d => at_any SB s t (inn.length + 1) i1 (out.length + 1) j1 (w.heap.size + 1) (w.heap.size + 2) (w.heap.size + 3) (wr2.drewN d) u5 u9 u10 HBD.out.1 HBD.out.2.1 HBD.out.2.2.1 HBD.out.2.2.2.1 HBD.out.2.2.2.2.1 HBD.out.2.2.2.2.2.1 HBJ.out
     have hq1' : ((idx (inn.length + 1) (out.length + 1) (s * SB + t) i1 j1 : Nat) : Int) < (N : Int) := by omega
     generalize hqg : idx (inn.length + 1) (out.length + 1) (s * SB + t) i1 j1 = q1 at *
     clear hp
     go_upto_region 45 with fail
     go_quiet (first | (go_at_call 35; exact Calls.quiet_of_same (KA _)))
     by_cases hpd : p < dear
     ·have hpd' := lt_dearI hpd
      have HPD : Hid (val B (idx (inn.length + 1) (cols out true) (s * SB + t) i1 j1) < dear ∧ val B (idx (inn.length + 1) (cols out true) (s * SB + t) i1 j1) = p) := by show _ ∧ _; rw [show cols out true = out.length + 1 from rfl, hqg, HPV.out]; exact ⟨hpd, rfl⟩
      obtain ⟨zz, z, hz, hwp, hwp2⟩ := wrap_pp hpd (show x + y ≤ 2000000 from HBW.out)
      have HZ : Hid (z = p + (x + y)) := hz
      clear hz
      have HTD : Hid (Tt w (wr2.drewN nq) ra rb (inn.length + 1) (out.length + 1) N B ag) := HTT.out.drewN nq
      have k0 : (wr2.drewN nq).cell? ⟨bx, 1, none⟩ = _ := k0
      have k1 : (wr2.drewN nq).cell? ⟨bx2, 1, none⟩ = _ := k1
      have k2 : (wr2.drewN nq).cell? ⟨bx, 4, none⟩ = _ := k2
      have k3 : (wr2.drewN nq).cell? ⟨bx2, 4, none⟩ = _ := k3
      have u5 : (wr2.drewN nq).cell? ⟨w.heap.size + 1, 0, none⟩ = _ := u5
      have u9 : (wr2.drewN nq).cell? ⟨w.heap.size + 2, 0, none⟩ = _ := u9
      have u10 : (wr2.drewN nq).cell? ⟨w.heap.size + 3, 0, none⟩ = _ := u10
      have u11 : (wr2.drewN nq).cell? ⟨w.heap.size + 5, 0, none⟩ = _ := u11
      have hbox : (wr2.drewN nq).heap[bx]? = _ := hbox
      clear hqg HPV HTT KA hc1
      generalize hVd : wr2.drewN nq = Wd at *
      clear hVd
      go_upto_region 47 with fail
      refine wp_region_noPanic ?_
      refine wp_region_held_drew (S := fun W => W.cell? ⟨bx, 1, none⟩ = some (.int .i64 (s2 : Int)) ∧ W.cell? ⟨bx2, 1, none⟩ = some (.int .i64 (t2 : Int)) ∧ W.cell? ⟨bx, 4, none⟩ = some (.int .i64 (x : Int)) ∧ W.cell? ⟨bx2, 4, none⟩ = some (.int .i64 (y : Int))) (by kernel_rfl) (by exact ⟨k0, k1, k2, k3⟩) (fun hHeld => ?_)
      have HT0 : Hid (Tt w Wd.drew ra rb (inn.length + 1) (out.length + 1) N B ag) := HTD.out.drew
      have gk0 : Wd.drew.cell? ⟨bx, 1, none⟩ = _ := k0
      have gk1 : Wd.drew.cell? ⟨bx2, 1, none⟩ = _ := k1
      have gk2 : Wd.drew.cell? ⟨bx, 4, none⟩ = _ := k2
      have gk3 : Wd.drew.cell? ⟨bx2, 4, none⟩ = _ := k3
      have g5 : Wd.drew.cell? ⟨w.heap.size + 1, 0, none⟩ = _ := u5
      have g9 : Wd.drew.cell? ⟨w.heap.size + 2, 0, none⟩ = _ := u9
      have g10 : Wd.drew.cell? ⟨w.heap.size + 3, 0, none⟩ = _ := u10
      have g11 : Wd.drew.cell? ⟨w.heap.size + 5, 0, none⟩ = _ := u11
      have gboxbx : Wd.drew.heap[bx]? = _ := hbox
      generalize hV : Wd.drew = V0 at *
      clear hV
      refine tk (v := ?_) 0 { dst := some 194, op := .move (.tmp 15), type := 69, pos := "machine.go:167", after := #[], guard := none } (by rfl) ?_ ?_
      case refine_2 => intro w hSw; (try dsimp only at hSw); obtain ⟨zk0, zk1, zk2, zk3⟩ := hSw; go_simp; (try with_reducible rfl)
      simp only [Act.put, zS0, zS1, zS2]
      refine tk (v := ?_) 1 { dst := some 195, op := .move (.tmp 13), type := 68, pos := "machine.go:167", after := #[], guard := none } (by rfl) ?_ ?_
      case refine_2 => intro w hSw; (try dsimp only at hSw); obtain ⟨zk0, zk1, zk2, zk3⟩ := hSw; go_simp; (try with_reducible rfl)
      simp only [Act.put, zS0, zS1, zS2]
      refine tk (v := ?_) 2 { dst := some 196, op := .fieldAddr 64 (.tmp 20) 1, type := 0, pos := "machine.go:167", after := #[], guard := none } (by rfl) ?_ ?_
      case refine_2 => intro w hSw; (try dsimp only at hSw); obtain ⟨zk0, zk1, zk2, zk3⟩ := hSw; go_simp; (try with_reducible rfl)
      simp only [Act.put, zS0, zS1, zS2]
      refine tk (v := ?_) 3 { dst := some 197, op := .load 3 (.tmp 196), type := 3, pos := "machine.go:167", after := #[⟨2, .data⟩], guard := none } (by rfl) ?_ ?_
      case refine_2 => intro w hSw; (try dsimp only at hSw); obtain ⟨zk0, zk1, zk2, zk3⟩ := hSw; go_simp; (try with_reducible rfl)
      simp only [Act.put, zS0, zS1, zS2]
      refine tk (v := ?_) 4 { dst := some 198, op := .fieldAddr 64 (.tmp 25) 1, type := 0, pos := "machine.go:167", after := #[], guard := none } (by rfl) ?_ ?_
      case refine_2 => intro w hSw; (try dsimp only at hSw); obtain ⟨zk0, zk1, zk2, zk3⟩ := hSw; go_simp; (try with_reducible rfl)
      simp only [Act.put, zS0, zS1, zS2]
      refine tk (v := ?_) 5 { dst := some 199, op := .load 3 (.tmp 198), type := 3, pos := "machine.go:167", after := #[⟨4, .data⟩], guard := none } (by rfl) ?_ ?_
      case refine_2 => intro w hSw; (try dsimp only at hSw); obtain ⟨zk0, zk1, zk2, zk3⟩ := hSw; go_simp; (try with_reducible rfl)
      simp only [Act.put, zS0, zS1, zS2]
      refine tk (v := ?_) 6 { dst := some 200, op := .move (.tmp 21), type := 3, pos := "machine.go:167", after := #[], guard := none } (by rfl) ?_ ?_
      case refine_2 => intro w hSw; (try dsimp only at hSw); obtain ⟨zk0, zk1, zk2, zk3⟩ := hSw; go_simp; (try with_reducible rfl)
      simp only [Act.put, zS0, zS1, zS2]
      refine tk (v := ?_) 7 { dst := some 201, op := .move (.tmp 26), type := 3, pos := "machine.go:167", after := #[], guard := none } (by rfl) ?_ ?_
      case refine_2 => intro w hSw; (try dsimp only at hSw); obtain ⟨zk0, zk1, zk2, zk3⟩ := hSw; go_simp; (try with_reducible rfl)
      simp only [Act.put, zS0, zS1, zS2]
      refine tk (v := ?_) 9 { dst := some 203, op := .move (.tmp 27), type := 3, pos := "machine.go:167", after := #[], guard := none } (by rfl) ?_ ?_
      case refine_2 => intro w hSw; (try dsimp only at hSw); obtain ⟨zk0, zk1, zk2, zk3⟩ := hSw; go_simp; (try with_reducible rfl)
      simp only [Act.put, zS0, zS1, zS2]
      refine tk (v := ?_) 10 { dst := some 204, op := .fieldAddr 64 (.tmp 20) 4, type := 0, pos := "machine.go:167", after := #[], guard := none } (by rfl) ?_ ?_
      case refine_2 => intro w hSw; (try dsimp only at hSw); obtain ⟨zk0, zk1, zk2, zk3⟩ := hSw; go_simp; (try with_reducible rfl)
      simp only [Act.put, zS0, zS1, zS2]
      refine tk (v := ?_) 11 { dst := some 205, op := .load 3 (.tmp 204), type := 3, pos := "machine.go:167", after := #[⟨10, .data⟩], guard := none } (by rfl) ?_ ?_
      case refine_2 => intro w hSw; (try dsimp only at hSw); obtain ⟨zk0, zk1, zk2, zk3⟩ := hSw; go_simp; (try with_reducible rfl)
      simp only [Act.put, zS0, zS1, zS2]
      refine tk (v := ?_) 12 { dst := some 206, op := .binOp .add 3 (.tmp 203) (.tmp 205) 3, type := 3, pos := "machine.go:167", after := #[⟨9, .data⟩, ⟨11, .data⟩], guard := none } (by rfl) ?_ ?_
      case refine_2 => intro w hSw; (try dsimp only at hSw); obtain ⟨zk0, zk1, zk2, zk3⟩ := hSw; go_simp; (try with_reducible rfl)
      simp only [Act.put, zS0, zS1, zS2]
      refine tk (v := ?_) 13 { dst := some 207, op := .fieldAddr 64 (.tmp 25) 4, type := 0, pos := "machine.go:167", after := #[], guard := none } (by rfl) ?_ ?_
      case refine_2 => intro w hSw; (try dsimp only at hSw); obtain ⟨zk0, zk1, zk2, zk3⟩ := hSw; go_simp; (try with_reducible rfl)
      simp only [Act.put, zS0, zS1, zS2]
      refine tk (v := ?_) 14 { dst := some 208, op := .load 3 (.tmp 207), type := 3, pos := "machine.go:167", after := #[⟨13, .data⟩], guard := none } (by rfl) ?_ ?_
      case refine_2 => intro w hSw; (try dsimp only at hSw); obtain ⟨zk0, zk1, zk2, zk3⟩ := hSw; go_simp; (try with_reducible rfl)
      simp only [Act.put, zS0, zS1, zS2]
      refine tk (v := ?_) 15 { dst := some 209, op := .binOp .add 3 (.tmp 206) (.tmp 208) 3, type := 3, pos := "machine.go:167", after := #[⟨12, .data⟩, ⟨14, .data⟩], guard := none } (by rfl) ?_ ?_
      case refine_2 => intro w hSw; (try dsimp only at hSw); obtain ⟨zk0, zk1, zk2, zk3⟩ := hSw; go_simp; (try with_reducible rfl)
      simp only [Act.put, zS0, zS1, zS2]
      refine wpAnyH_ready (rs := [8]) (by kernel_rfl) (by simp) ?_
      refine (AllReadyH.cons (o := { dst := some 202, op := .call { callee := .value (.tmp 195), args := #[.tmp 197, .tmp 199, .tmp 200, .tmp 201], argTypes := #[3, 3, 3, 3] }, type := 3, pos := "machine.go:167", after := #[⟨1, .data⟩, ⟨3, .data⟩, ⟨5, .data⟩, ⟨6, .data⟩, ⟨7, .data⟩], guard := none }) rfl (fun K hK => ?_) AllReadyH.nil)
      go_simp
      have KA := at_any SB s2 t2 (inn.length + 1) r1 (out.length + 1) j1 (w.heap.size + 1) (w.heap.size + 2) (w.heap.size + 3) V0 g5 g9 g10 HBD.out.1 HBD.out.2.2.2.2.2.2.1 HBD.out.2.2.2.2.2.2.2.1 HBD.out.2.2.2.1 HBD.out.2.2.2.2.2.2.2.2.1 HBD.out.2.2.2.2.2.1 HBD.out.2.2.2.2.2.2.2.2.2
      (try simp only [Int.natCast_add, Int.natCast_one] at KA)
      (with_reducible refine KA.mono ?_)
      clear KA
      rintro e2 w2 ⟨rfl, hw2⟩
      subst w2
      dsimp only
      refine hK.out _ _ ?_ (fun hHeld => ?_)
      ·exact ⟨gk0, gk1, gk2, gk3⟩
      clear hK K
      try simp only [Act.put, zS0, zS1, zS2]
      refine wpAnyH_ready (rs := [16]) (by kernel_rfl) (by simp) ?_
      refine (AllReadyH.cons (o := { dst := some 210, op := .call { callee := .value (.tmp 194), args := #[.tmp 202, .tmp 209], argTypes := #[3, 3] }, type := 0, pos := "machine.go:167", after := #[⟨0, .data⟩, ⟨8, .data⟩, ⟨15, .data⟩, ⟨8, .chain⟩], guard := none }) rfl (fun K hK => ?_) AllReadyH.nil)
      go_simp
      have KL := lower_any (idx (inn.length + 1) (out.length + 1) (s2 * SB + t2) r1 j1) N (w.heap.size + 4) (w.heap.size + 5) (w.heap.size + 6) z (val B (idx (inn.length + 1) (out.length + 1) (s2 * SB + t2) r1 j1)) V0 g11 hq2 (HT0.out.cell hq2) (HT0.out.tab.frozenAt _) ⟨_, HT0.out.x14⟩ (by omega)
      (with_reducible refine KL.mono ?_)
      clear KL
      rintro e3 w3 ⟨rfl, hw3⟩
      dsimp only
      refine hK.out _ _ ?_ (fun hHeld => ?_)
      ·(rw [hw3]; split; exact ⟨(cell_other2 _ _ _ _ _ _ hGbx h6bx).trans gk0, (cell_other2 _ _ _ _ _ _ hGbx2 h6bx2).trans gk1, (cell_other2 _ _ _ _ _ _ hGbx h6bx).trans gk2, (cell_other2 _ _ _ _ _ _ hGbx2 h6bx2).trans gk3⟩; exact ⟨gk0, gk1, gk2, gk3⟩)
      clear hK K
      try simp only [Act.put, zS0, zS1, zS2]
      refine wpAnyH_done (by kernel_rfl) ?_ _
      refine NoPanic.normal ?_
      have hz2 := HZ.out
      subst hz2
      by_cases hlow : p + (x + y) < val B (idx (inn.length + 1) (out.length + 1) (s2 * SB + t2) r1 j1)
      ·have HLW : Hid (val B (idx (inn.length + 1) (cols out true) (s * SB + t) i1 j1) + (x + y) < val B (idx (inn.length + 1) (cols out true) (s2 * SB + t2) r1 j1)) := by show _ < _; rw [HPD.out.2]; exact hlow
       rw [if_pos hlow] at hw3
       have HT3 : Hid (Tt w w3 ra rb (inn.length + 1) (out.length + 1) N (B.set (idx (inn.length + 1) (out.length + 1) (s2 * SB + t2) r1 j1) (p + (x + y))) true) := by rw [hw3]; exact HT0.out.low _ _
       have hbxbx := (congrArg (fun W : World => W.heap[bx]?) hw3).trans (((heap_setCell_other _ _ _ _ h6bx).trans (heap_setCell_other _ _ _ _ hGbx)).trans gboxbx)
       have HL : Hid _ := look_took (fun e i j => DT e i j (y1 + 1)) HEM.out (ex_1 SB s s2 x t t2 y I0 O0 I 0) (ex_2 SB s s2 x t t2 y I0 O0 I 0) (ex_5 SB s s2 x t t2 y I0 O0 I 0) HBW.out HBL.out.1 HBL.out.2.1 HBL.out.2.2.1 (show j1 < out.length + 1 from HBL.out.2.2.2.1) HMV.out HV.out HP.out (by rw [HTD.out.len]; have := HBL.out.2.2.2.2; omega) HPD.out.1 HLW.out
       have HL2 : Hid (InvP (prM a b SA SB) inn out true (SA * SB) (B.set (idx (inn.length + 1) (out.length + 1) (s2 * SB + t2) r1 j1) (p + (x + y))) ∧ Pas inn out B0 true (B.set (idx (inn.length + 1) (out.length + 1) (s2 * SB + t2) r1 j1) (p + (x + y))) fun e i j => DT e i j (y1 + 1)) := by have := HL.out; rw [HPD.out.2] at this; exact this
       clear hw3
       go_wp2
       go_roundw
       case rel => exact ⟨_, true, y1 + 1, by go_num, hyl, HT3.out, hbxbx, HL2.out.1, HL2.out.2⟩
       case measure => simp [intOf]; omega
      ·have HLW : Hid (¬ val B (idx (inn.length + 1) (cols out true) (s * SB + t) i1 j1) + (x + y) < val B (idx (inn.length + 1) (cols out true) (s2 * SB + t2) r1 j1)) := by show ¬ _ < _; rw [HPD.out.2]; exact hlow
       rw [if_neg hlow] at hw3
       subst hw3
       have HL : Hid (Pas inn out B0 ag B fun e i j => DT e i j (y1 + 1)) := look_kept (ex_1 SB s s2 x t t2 y I0 O0 I 0) (ex_2 SB s s2 x t t2 y I0 O0 I 0) (ex_5 SB s s2 x t t2 y I0 O0 I 0) HMV.out HP.out HDN.out HLW.out
       go_wp2
       go_roundw
       case rel => exact ⟨B, ag, y1 + 1, by go_num, hyl, HT0.out, gboxbx, HV.out, HL.out⟩
       case measure => simp [intOf]; omega
     ·have hpd' := ge_dearI hpd
      have HPD : Hid (val B (idx (inn.length + 1) (cols out true) (s * SB + t) i1 j1) = dear) := by show _ = _; rw [show cols out true = out.length + 1 from rfl, hqg, HPV.out]; have := HV.out.top q1; rw [HPV.out] at this; omega
      have HL : Hid (Pas inn out B0 ag B fun e i j => DT e i j (y1 + 1)) := look_dear (ex_1 SB s s2 x t t2 y I0 O0 I 0) HP.out HDN.out HPD.out
      clear hqg HPV
      go_wp2
      go_roundw
      case rel => exact ⟨B, ag, y1 + 1, by go_num, hyl, (HTT.out.drewN nq), hbox, HV.out, HL.out⟩
      case measure => simp [intOf]; omega
   ·have bIO : (I != O0) = true := by simp [hIO]
    have HL : Hid (Pas inn out B0 ag B fun e i j => DT e i j (y1 + 1)) := HP.out.mono fun e i j h => (HDA.out e i j h).resolve_right fun h => hIO (by have := h.1; rw [HYM.out] at this; exact this)
    clear hIO
    go_wp2
    go_roundw
    case rel => exact ⟨B, ag, y1 + 1, by go_num, hyl, HTT.out, hbox, HV.out, HL.out⟩
    case measure => simp [intOf]; omega
  ·have hyl' : ¬ (y1 : Int) < (b.arcs.length : Int) := by omega
   obtain rfl : y1 = b.arcs.length := by omega
   go_wp2
   exact HX.out _ _ _ _ _ _ _ _ _ _ _ _ _ _ _ _ _ _ _ _ _ _ _ _ _ _ _ _ _ _ _ _ _ _ _ _ _ _ _ _ _ _ _ _ _ _ _ _ _ _ _ _ _ _ _ _ _ _ _ _ _ _ _ _ _ _ _ _ _ _ _ _ HTT0.out hbox HV.out HP.out
end Go.Proofs.YtfjocafepigijaaDoor.Tc
