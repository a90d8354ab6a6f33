/- The document's ThroughCost: a round over the arcs of the first machine. Conditions: numbers are small. -/
import Derived.Test.YtfjocafepigijaaDoorTh0
import Derived.Deep.LoopGhost
import Derived.Deep.QuietTactic
import Derived.BigQuiet
import Derived.Deep.RegionHeld
import Derived.Deep.CutRange
import Derived.Deep.RegionHeld3
namespace Go.Proofs.YtfjocafepigijaaDoor.Tc
open Go.RowKit Mv Wk Bw Th CR

noncomputable def bodyX : Code := ((Tryd.f16.body.map loops).getD []).getD 4 .skip
set_option maxHeartbeats 8000000 in
set_option maxRecDepth 1000000 in
theorem loopX (SA SB N : Nat) (a b : M) (inn out : List Int) (ai ao : Option Addr) (ci co : Nat) (ra rb : Array Value) (w wi : World) (B0 B : List Nat) (ag : Bool) (i1 j1 : Nat) (aa ab : Option Addr) (ca cb : Nat) (D0 : A5 → Nat → Nat → Prop) (c0 c1 c6 c7 c8 c12 c16 c28 c29 c30 c31 c32 c33 c34 c35 c36 c37 c38 c39 c40 c41 c42 c43 c44 c45 c46 c47 c48 c49 c50 c51 c52 c53 c54 c55 c56 c57 c58 c59 c60 c61 c62 c63 c64 c65 c66 c67 c68 c69 c70 c71 c72 c73 c74 c75 c76 c77 c78 c79 c211 c212 c213 c214 c215 c216 c217 c218 c219 c220 c221 c222 c223 c224 c225 c226 c227 c228 c229 c230 c231 c232 c233 c234 c235 c236 c237 c238 c239 c240 c241 c242 c243 c244 c245 c246 c247 c248 c249 c250 c251 c252 c253 c254 c255 c256 c257 c258 c259 c260 c261 c262 c263 c264 c265 c266 c267 c268 c269 c270 c271 c272 c273 c274 c275 c276 c277 c278 c279 c280 c281 c282 c283 c284 c285 c286 c287 c288 c289 c290 c291 c292 c293 c294 c295 c296 c297 c298 c299 c300 c301 c302 c303 c304 c305 c306 c307 c308 c309 c310 c311 c312 c313 c314 c315 c316 c317 c318 c319 c320 c321 c322 c323 c324 c325 c326 c327 c328 c329 c330 c331 c332 c333 : Value) (u20 u21 u22 u23 u24 u25 u26 u27 u80 u81 u82 u83 u84 u85 u86 u87 u88 u89 u90 u91 u92 u93 u94 u95 u96 u97 u98 u99 u100 u101 u102 u103 u104 u105 u106 u107 u108 u109 u110 u111 u112 u113 u114 u115 u116 u117 u118 u119 u120 u121 u122 u123 u124 u125 u126 u127 u128 u129 u130 u131 u132 u133 u134 u135 u136 u137 u138 u139 u140 u141 u142 u143 u144 u145 u146 u147 u148 u149 u150 u151 u152 u153 u154 u155 u156 u157 u158 u159 u160 u161 u162 u163 u164 u165 u166 u167 u168 u169 u170 u171 u172 u173 u174 u175 u176 u177 u178 u179 u180 u181 u182 u183 u184 u185 u186 u187 u188 u189 u190 u191 u192 u193 u194 u195 u196 u197 u198 u199 u200 u201 u202 u203 u204 u205 u206 u207 u208 u209 u210 : Value)
  (HE : Hid (EnvX SA SB N a b inn out ai ao w i1 j1)) (h41 : ra[1]? = some (.slice aa a.arcs.length ca)) (h5 : rb[0]? = some (.int .i64 (SB : Int))) (h51 : rb[1]? = some (.slice ab b.arcs.length cb))
  (HRA : Hid (ArcRow w aa a.arcs)) (HRB : Hid (ArcRow w ab b.arcs))
  (ht : Tt w wi ra rb (inn.length + 1) (out.length + 1) N B ag) (HV : Hid (InvP (prM a b SA SB) inn out true (SA * SB) B)) (HP : Hid (Pas inn out B0 ag B D0)) (Q0 : Exit → Act → World → Prop)
  (hexit : ∀ (B : List Nat) (ag : Bool) (wr : World) (v20 v21 v22 v23 v24 v25 v26 v27 v80 v81 v82 v83 v84 v85 v86 v87 v88 v89 v90 v91 v92 v93 v94 v95 v96 v97 v98 v99 v100 v101 v102 v103 v104 v105 v106 v107 v108 v109 v110 v111 v112 v113 v114 v115 v116 v117 v118 v119 v120 v121 v122 v123 v124 v125 v126 v127 v128 v129 v130 v131 v132 v133 v134 v135 v136 v137 v138 v139 v140 v141 v142 v143 v144 v145 v146 v147 v148 v149 v150 v151 v152 v153 v154 v155 v156 v157 v158 v159 v160 v161 v162 v163 v164 v165 v166 v167 v168 v169 v170 v171 v172 v173 v174 v175 v176 v177 v178 v179 v180 v181 v182 v183 v184 v185 v186 v187 v188 v189 v190 v191 v192 v193 v194 v195 v196 v197 v198 v199 v200 v201 v202 v203 v204 v205 v206 v207 v208 v209 v210 : Value), Tt w wr ra rb (inn.length + 1) (out.length + 1) N B ag → InvP (prM a b SA SB) inn out true (SA * SB) B → Pas inn out B0 ag B (fun e i j => DX D0 a.arcs (jx b SB) i1 j1 e i j a.arcs.length) → Q0 (.exit 8) ⟨#[c0, c1, .slice ai inn.length ci, .slice ao out.length co, .pointer (some ⟨w.heap.size, 0, none⟩), .pointer (some ⟨w.heap.size + 1, 0, none⟩), c6, c7, c8, .pointer (some ⟨w.heap.size + 2, 0, none⟩), .pointer (some ⟨w.heap.size + 3, 0, none⟩), .pointer (some ⟨w.heap.size + 5, 0, none⟩), c12, .func (.func 35) #[] #[.pointer (some ⟨w.heap.size + 1, 0, none⟩), .pointer (some ⟨w.heap.size + 2, 0, none⟩), .pointer (some ⟨w.heap.size + 3, 0, none⟩)], .pointer (some ⟨w.heap.size + 6, 0, none⟩), .func (.func 36) #[] #[.pointer (some ⟨w.heap.size + 5, 0, none⟩), .pointer (some ⟨w.heap.size + 6, 0, none⟩)], c16, .int .i64 (i1 : Int), .int .i64 (j1 : Int), .int .i64 (a.arcs.length : Int), v20, v21, v22, v23, v24, v25, v26, v27, c28, c29, c30, c31, c32, c33, c34, c35, c36, c37, c38, c39, c40, c41, c42, c43, c44, c45, c46, c47, c48, c49, c50, c51, c52, c53, c54, c55, c56, c57, c58, c59, c60, c61, c62, c63, c64, c65, c66, c67, c68, c69, c70, c71, c72, c73, c74, c75, c76, c77, c78, c79, v80, v81, v82, v83, v84, v85, v86, v87, v88, v89, v90, v91, v92, v93, v94, v95, v96, v97, v98, v99, v100, v101, v102, v103, v104, v105, v106, v107, v108, v109, v110, v111, v112, v113, v114, v115, v116, v117, v118, v119, v120, v121, v122, v123, v124, v125, v126, v127, v128, v129, v130, v131, v132, v133, v134, v135, v136, v137, v138, v139, v140, v141, v142, v143, v144, v145, v146, v147, v148, v149, v150, v151, v152, v153, v154, v155, v156, v157, v158, v159, v160, v161, v162, v163, v164, v165, v166, v167, v168, v169, v170, v171, v172, v173, v174, v175, v176, v177, v178, v179, v180, v181, v182, v183, v184, v185, v186, v187, v188, v189, v190, v191, v192, v193, v194, v195, v196, v197, v198, v199, v200, v201, v202, v203, v204, v205, v206, v207, v208, v209, v210, c211, c212, c213, c214, c215, c216, c217, c218, c219, c220, c221, c222, c223, c224, c225, c226, c227, c228, c229, c230, c231, c232, c233, c234, c235, c236, c237, c238, c239, c240, c241, c242, c243, c244, c245, c246, c247, c248, c249, c250, c251, c252, c253, c254, c255, c256, c257, c258, c259, c260, c261, c262, c263, c264, c265, c266, c267, c268, c269, c270, c271, c272, c273, c274, c275, c276, c277, c278, c279, c280, c281, c282, c283, c284, c285, c286, c287, c288, c289, c290, c291, c292, c293, c294, c295, c296, c297, c298, c299, c300, c301, c302, c303, c304, c305, c306, c307, c308, c309, c310, c311, c312, c313, c314, c315, c316, c317, c318, c319, c320, c321, c322, c323, c324, c325, c326, c327, c328, c329, c330, c331, c332, c333], []⟩ wr) :
  Code.wp Tryd.prog (Code.loop bodyX) Q0 ⟨#[c0, c1, .slice ai inn.length ci, .slice ao out.length co, .pointer (some ⟨w.heap.size, 0, none⟩), .pointer (some ⟨w.heap.size + 1, 0, none⟩), c6, c7, c8, .pointer (some ⟨w.heap.size + 2, 0, none⟩), .pointer (some ⟨w.heap.size + 3, 0, none⟩), .pointer (some ⟨w.heap.size + 5, 0, none⟩), c12, .func (.func 35) #[] #[.pointer (some ⟨w.heap.size + 1, 0, none⟩), .pointer (some ⟨w.heap.size + 2, 0, none⟩), .pointer (some ⟨w.heap.size + 3, 0, none⟩)], .pointer (some ⟨w.heap.size + 6, 0, none⟩), .func (.func 36) #[] #[.pointer (some ⟨w.heap.size + 5, 0, none⟩), .pointer (some ⟨w.heap.size + 6, 0, none⟩)], c16, .int .i64 (i1 : Int), .int .i64 (j1 : Int), .int .i64 0, u20, u21, u22, u23, u24, u25, u26, u27, c28, c29, c30, c31, c32, c33, c34, c35, c36, c37, c38, c39, c40, c41, c42, c43, c44, c45, c46, c47, c48, c49, c50, c51, c52, c53, c54, c55, c56, c57, c58, c59, c60, c61, c62, c63, c64, c65, c66, c67, c68, c69, c70, c71, c72, c73, c74, c75, c76, c77, c78, c79, u80, u81, u82, u83, u84, u85, u86, u87, u88, u89, u90, u91, u92, u93, u94, u95, u96, u97, u98, u99, u100, u101, u102, u103, u104, u105, u106, u107, u108, u109, u110, u111, u112, u113, u114, u115, u116, u117, u118, u119, u120, u121, u122, u123, u124, u125, u126, u127, u128, u129, u130, u131, u132, u133, u134, u135, u136, u137, u138, u139, u140, u141, u142, u143, u144, u145, u146, u147, u148, u149, u150, u151, u152, u153, u154, u155, u156, u157, u158, u159, u160, u161, u162, u163, u164, u165, u166, u167, u168, u169, u170, u171, u172, u173, u174, u175, u176, u177, u178, u179, u180, u181, u182, u183, u184, u185, u186, u187, u188, u189, u190, u191, u192, u193, u194, u195, u196, u197, u198, u199, u200, u201, u202, u203, u204, u205, u206, u207, u208, u209, u210, c211, c212, c213, c214, c215, c216, c217, c218, c219, c220, c221, c222, c223, c224, c225, c226, c227, c228, c229, c230, c231, c232, c233, c234, c235, c236, c237, c238, c239, c240, c241, c242, c243, c244, c245, c246, c247, c248, c249, c250, c251, c252, c253, c254, c255, c256, c257, c258, c259, c260, c261, c262, c263, c264, c265, c266, c267, c268, c269, c270, c271, c272, c273, c274, c275, c276, c277, c278, c279, c280, c281, c282, c283, c284, c285, c286, c287, c288, c289, c290, c291, c292, c293, c294, c295, c296, c297, c298, c299, c300, c301, c302, c303, c304, c305, c306, c307, c308, c309, c310, c311, c312, c313, c314, c315, c316, c317, c318, c319, c320, c321, c322, c323, c324, c325, c326, c327, c328, c329, c330, c331, c332, c333], []⟩ wi := by
 dsimp only at hexit ⊢
 conv => arg 2; arg 1; whnf
 have HX : Hid _ := hexit
 clear hexit
 go_loopw [19] (fun tv wr => ∃ (B : List Nat) (ag : Bool) (x1 : Nat), tv = .int .i64 (x1 : Int) ∧ x1 ≤ a.arcs.length ∧ Tt w wr ra rb (inn.length + 1) (out.length + 1) N B ag ∧ InvP (prM a b SA SB) inn out true (SA * SB) B ∧ Pas inn out B0 ag B (fun e i j => DX D0 a.arcs (jx b SB) i1 j1 e i j x1)) (fun tv _ => a.arcs.length - (intOf tv).toNat)
 case atStart => exact ⟨B, ag, 0, rfl, Nat.zero_le _, ht, HV.out, HP.out.mono fun e i j h => DX.zero h⟩
 case round =>
  clear ht HP HV
  obtain ⟨B, ag, x1, rfl, hxl0, htt, hinv, hpas⟩ := hrel
  have HTT0 : Hid (Tt w wr ra rb (inn.length + 1) (out.length + 1) N B ag) := htt
  have HV : Hid (InvP (prM a b SA SB) inn out true (SA * SB) B) := hinv
  have HP : Hid (Pas inn out B0 ag B fun e i j => DX D0 a.arcs (jx b SB) i1 j1 e i j x1) := hpas
  have u41 : wr.cell? ⟨w.heap.size, 1, none⟩ = some (.slice aa a.arcs.length ca) := (cell_of_row _ _ 1 _ _ _ htt.x4).trans h41
  have hl120 : a.arcs.length ≤ 120 := HE.out.hlA
  clear htt hinv hpas
  by_cases hxl : x1 < a.arcs.length
  ·have hxl' : (x1 : Int) < (a.arcs.length : Int) := by omega
   obtain ⟨bb, off, rfl, hbb, hcc⟩ := HRA.out.resolve_left (by omega)
   obtain ⟨s, s2, x, I, O, hy, hsA, hs2A, hxw, hI0, hO0⟩ := HE.out.arcA x1 hxl
   have HXM : Hid (a.arcs[x1] = ((s : Int), (s2 : Int), I, O, (x : Int))) := hy
   have HXB : Hid (s < SA ∧ s2 < SA ∧ x ≤ 1000000) := ⟨hsA, hs2A, hxw⟩
   have hat := acs_at a.arcs x1 hxl
   rw [hy] at hat
   have a0 := (HTT0.out.old (q := off + x1 * 5) hbb).trans (hcc _ _ hat.1)
   have a1 := (HTT0.out.old (q := off + (x1 * 5 + 1)) hbb).trans (hcc _ _ hat.2.1)
   have a2 := (HTT0.out.old (q := off + (x1 * 5 + 2)) hbb).trans (hcc _ _ hat.2.2.1)
   have a3 := (HTT0.out.old (q := off + (x1 * 5 + 3)) hbb).trans (hcc _ _ hat.2.2.2.1)
   have a4 := (HTT0.out.old (q := off + (x1 * 5 + 4)) hbb).trans (hcc _ _ hat.2.2.2.2)
   simp only [← Nat.add_assoc] at a1 a2 a3 a4
   clear hy hsA hs2A hxw hat hcc
   go_upto_region 26 with fail
   have hbox := heap_alloc_new wr (.cells #[.int .i64 (s : Int), .int .i64 (s2 : Int), .int .i64 I, .int .i64 O, .int .i64 (x : Int)] 64)
   have HTT : Hid (Tt w (wr.alloc (.cells #[.int .i64 (s : Int), .int .i64 (s2 : Int), .int .i64 I, .int .i64 O, .int .i64 (x : Int)] 64)) ra rb (inn.length + 1) (out.length + 1) N B ag) := HTT0.out.alloc _
   have hb7 : w.heap.size + 7 ≤ wr.heap.size := lt_get HTT0.out.x14
   clear a0 a1 a2 a3 a4 u41 HTT0
   generalize hV : wr.alloc (.cells #[.int .i64 (s : Int), .int .i64 (s2 : Int), .int .i64 I, .int .i64 O, .int .i64 (x : Int)] 64) = wr2 at *
   clear hV
   generalize wr.heap.size = bx at *
   have k2 := cell_of_row _ _ 2 _ _ _ hbox
   have k3 := cell_of_row _ _ 3 _ _ _ hbox
   by_cases hI : 0 < I
   ·by_cases hil : i1 < inn.length
    ·have bj : ((i1 : Int) == (inn.length : Int)) = false := by simp; omega
     obtain ⟨bo, oo, rfl, hbo, hco⟩ := HE.out.li.resolve_left (by omega)
     have o1 := (HTT.out.old (q := oo + i1) hbo).trans (hco i1 (.int .i64 inn[i1]) (by simp [hil]))
     have hil' : (i1 : Int) < (inn.length : Int) := by omega
     obtain ⟨oj, hoj⟩ : ∃ oj, inn[i1] = oj := ⟨_, rfl⟩
     have HOJ : Hid (inn[i1]? = some oj) := by show _ = _; rw [List.getElem?_eq_getElem hil, hoj]
     rw [hoj] at o1
     clear hco hoj
     by_cases hm : oj = I
     ·have bm : (oj != I) = false := by simp [hm]
      obtain ⟨r1, hr1, hwr⟩ := wrap_up (n := i1) (le_mil HE.out.hi HE.out.hn)
      have HMI : Hid ((I = 0 ∧ r1 = i1) ∨ (0 < I ∧ inn[i1]? = some I ∧ r1 = i1 + 1)) := .inr ⟨hI, by rw [HOJ.out, hm], hr1⟩
      have HR1 : Hid (r1 < inn.length + 1) := by show _ < _; rw [hr1]; exact Nat.succ_lt_succ hil
      clear hm hr1
      go_upto_region 27 with fail
      go_quiet (fail)
      go_upto_region 29 with fail
      have HTT : Hid (Tt w (wr2.drewN nq) ra rb (inn.length + 1) (out.length + 1) N B ag) := HTT.out.drewN nq
      have k3 : (wr2.drewN nq).cell? ⟨bx, 3, none⟩ = _ := k3
      have hbox : (wr2.drewN nq).heap[bx]? = _ := hbox
      generalize hVq : wr2.drewN nq = wr2 at *
      clear hVq
      rw [hwr]
      have HBR : Hid (r1 < inn.length + 1) := HR1.out
      by_cases hO : O = 0
      ·subst hO
       have HT' : Hid (EnvT SA SB N a b inn out i1 j1 r1 s s2 x I) := ⟨HE.out.hA, HE.out.hB, HE.out.hn, HE.out.hk, HE.out.hi, HE.out.hj, HR1.out, HXB.out.1, HXB.out.2.1, HXB.out.2.2, HE.out.hN, fun t ht => mem_jx (HXM.out ▸ List.getElem_mem hxl) (by unfold jx; rw [if_pos rfl]; exact List.mem_map.2 ⟨t, List.mem_range.2 ht, rfl⟩), fun t => ⟨by simpa [eA] using HMI.out, .inl ⟨.inl rfl, rfl⟩⟩⟩
       have HP0 : Hid (Pas inn out B0 ag B fun e i j => DM (fun e i j => DX D0 a.arcs (jx b SB) i1 j1 e i j x1) (eA SB ((s : Int), (s2 : Int), I, 0, (x : Int))) i1 j1 e i j 0) := HP.out.mono fun e i j h => DM.zero h
       go_wp2
       refine loopT SA SB N a b inn out (some ⟨bo, oo, none⟩) ao ci co ra rb w wr2 B0 B ag i1 j1 r1 s s2 x bx I (DM (fun e i j => DX D0 a.arcs (jx b SB) i1 j1 e i j x1) (eA SB ((s : Int), (s2 : Int), I, 0, (x : Int))) i1 j1) _ _ _ _ _ _ _ _ _ _ _ _ _ _ _ _ _ _ _ _ _ _ _ _ _ _ _ _ _ _ _ _ _ _ _ _ _ _ _ _ _ _ _ _ _ _ _ _ _ _ _ _ _ _ _ _ _ _ _ _ _ _ _ _ _ _ _ _ _ _ _ _ _ _ _ _ _ _ _ _ _ _ _ _ _ _ _ _ _ _ _ _ _ _ _ _ _ _ _ _ _ _ _ _ _ _ _ _ _ _ _ _ _ _ _ _ _ _ _ _ _ _ _ _ _ _ _ _ _ _ _ _ _ _ _ _ _ _ _ _ _ _ _ _ _ _ _ _ _ _ _ _ _ _ _ _ _ _ _ _ _ _ _ _ _ _ _ _ _ _ _ _ _ _ _ _ _ _ _ _ _ _ _ _ _ _ _ _ _ _ _ _ _ _ _ _ _ _ _ _ _ _ _ _ _ _ _ _ _ _ _ _ _ _ _ _ _ _ _ _ _ _ _ _ _ _ _ _ _ _ _ _ _ _ _ _ _ _ _ _ _ _ _ _ _ _ _ _ _ _ _ _ _ _ _ _ _ _ _ _ _ _ _ _ _ _ _ _ _ _ _ _ _ _ _ _ _ _ _ _ _ _ _ _ _ _ _ _ _ _ _ _ _ _ _ _ _ _ _ _ _ _ _ _ _ _ _ _ _ _ _ _ _ _ _ _ _ _ _ HT' h5 hb7 (fun t e i j h => DM.up h) HTT.out hbox HV HP0 _ ?_
       dsimp only
       intro B ag wr3 v23 v114 v115 v116 v117 v118 v119 v120 v121 v122 v123 v124 v125 v126 v127 v128 v129 v130 v131 v132 v133 v134 v135 v136 v137 v138 v139 v140 v141 v142 v143 v144 htt3 hbox3 hinv3 hpas3
       have HP3 : Hid (Pas inn out B0 ag B fun e i j => DX D0 a.arcs (jx b SB) i1 j1 e i j (x1 + 1)) := hpas3.mono fun e i j h => (DX.up hxl h).imp id fun ⟨h1, h2, h3⟩ => ⟨h1, h2, by rw [HXM.out] at h3; unfold jx at h3; rw [if_pos rfl] at h3; exact h3⟩
       have HV3 : Hid _ := hinv3
       have HTT3 : Hid _ := htt3
       clear hpas3 hinv3 htt3 hbox3
       go_wp2
       go_roundw
       case rel => exact ⟨B, ag, x1 + 1, by go_num, hxl, HTT3.out, HV3.out, HP3.out⟩
       case measure => simp [intOf]; omega
      ·have bO : (O == 0) = false := by simp [hO]
       have HY' : Hid (EnvY SA SB N a b inn out ao w i1 j1 r1 s s2 x I O) := ⟨HE.out.hA, HE.out.hB, HE.out.hn, HE.out.hk, HE.out.hlB, HE.out.hi, HE.out.hj, HR1.out, HXB.out.1, HXB.out.2.1, HXB.out.2.2, HE.out.hN, fun y h => by obtain ⟨t, t2, yw, I, O, h1, h2, h3, h4, _, h5⟩ := HE.out.arcB y h; exact ⟨t, t2, yw, I, O, h1, h2, h3, h4, h5⟩, fun g hg h => mem_jx (HXM.out ▸ List.getElem_mem hxl) (by unfold jx; rw [if_neg hO]; refine List.mem_flatMap.2 ⟨g, hg, ?_⟩; unfold jy; rw [if_pos h]; simp), HMI.out, HE.out.lo⟩
       have HP0 : Hid (Pas inn out B0 ag B fun e i j => DX (fun e i j => DX D0 a.arcs (jx b SB) i1 j1 e i j x1) b.arcs (jy SB ((s : Int), (s2 : Int), I, O, (x : Int))) i1 j1 e i j 0) := HP.out.mono fun e i j h => DX.zero h
       have HDY : Hid (∀ y (h : y < b.arcs.length) e i j, DX (fun e i j => DX D0 a.arcs (jx b SB) i1 j1 e i j x1) b.arcs (jy SB ((s : Int), (s2 : Int), I, O, (x : Int))) i1 j1 e i j (y + 1) → DX (fun e i j => DX D0 a.arcs (jx b SB) i1 j1 e i j x1) b.arcs (jy SB ((s : Int), (s2 : Int), I, O, (x : Int))) i1 j1 e i j y ∨ ((b.arcs[y]).2.2.1 = O ∧ e = eX SB ((s : Int), (s2 : Int), I, O, (x : Int)) b.arcs[y] ∧ i = i1 ∧ j = j1)) := fun y h e i j hd => DX.up_y h hd
       go_wp2
       refine loopY SA SB N a b inn out (some ⟨bo, oo, none⟩) ao ci co ra rb w wr2 B0 B ag i1 j1 r1 s s2 x bx I O ab cb (DX (fun e i j => DX D0 a.arcs (jx b SB) i1 j1 e i j x1) b.arcs (jy SB ((s : Int), (s2 : Int), I, O, (x : Int))) i1 j1) _ _ _ _ _ _ _ _ _ _ _ _ _ _ _ _ _ _ _ _ _ _ _ _ _ _ _ _ _ _ _ _ _ _ _ _ _ _ _ _ _ _ _ _ _ _ _ _ _ _ _ _ _ _ _ _ _ _ _ _ _ _ _ _ _ _ _ _ _ _ _ _ _ _ _ _ _ _ _ _ _ _ _ _ _ _ _ _ _ _ _ _ _ _ _ _ _ _ _ _ _ _ _ _ _ _ _ _ _ _ _ _ _ _ _ _ _ _ _ _ _ _ _ _ _ _ _ _ _ _ _ _ _ _ _ _ _ _ _ _ _ _ _ _ _ _ _ _ _ _ _ _ _ _ _ _ _ _ _ _ _ _ _ _ _ _ _ _ _ _ _ _ _ _ _ _ _ _ _ _ _ _ _ _ _ _ _ _ _ _ _ _ _ _ _ _ _ _ _ _ _ _ _ _ _ _ _ _ _ _ _ _ _ _ _ _ _ _ _ _ _ _ _ _ _ _ _ _ _ _ _ _ _ _ _ _ _ _ _ _ _ _ _ _ _ _ _ _ _ _ _ _ _ _ _ _ _ _ _ _ _ _ _ _ _ _ _ _ _ _ _ _ _ _ _ _ _ _ _ _ _ _ _ _ _ _ _ _ _ _ _ _ _ _ _ _ _ _ _ _ _ _ _ _ _ _ _ _ _ _ _ _ _ _ _ _ _ _ _ HY' h5 h51 hb7 HRB HDY HTT.out hbox HV HP0 _ ?_
       dsimp only
       intro B ag wr3 v25 v26 v27 v145 v146 v147 v148 v149 v150 v151 v152 v153 v154 v155 v156 v157 v158 v159 v160 v161 v162 v163 v164 v165 v166 v167 v168 v169 v170 v171 v172 v173 v174 v175 v176 v177 v178 v179 v180 v181 v182 v183 v184 v185 v186 v187 v188 v189 v190 v191 v192 v193 v194 v195 v196 v197 v198 v199 v200 v201 v202 v203 v204 v205 v206 v207 v208 v209 v210 htt3 hbox3 hinv3 hpas3
       have HP3 : Hid (Pas inn out B0 ag B fun e i j => DX D0 a.arcs (jx b SB) i1 j1 e i j (x1 + 1)) := hpas3.mono fun e i j h => take_all ((DX.up hxl h).imp id fun ⟨h1, h2, h3⟩ => ⟨h1, h2, by rw [HXM.out] at h3; unfold jx at h3; rw [if_neg hO] at h3; exact h3⟩)
       have HV3 : Hid _ := hinv3
       have HTT3 : Hid _ := htt3
       clear hpas3 hinv3 htt3 hbox3 hO
       go_wp2
       go_roundw
       case rel => exact ⟨B, ag, x1 + 1, by go_num, hxl, HTT3.out, HV3.out, HP3.out⟩
       case measure => simp [intOf]; omega
     ·have bm : (oj != I) = true := by simp [hm]
      have HL : Hid (Pas inn out B0 ag B fun e i j => DX D0 a.arcs (jx b SB) i1 j1 e i j (x1 + 1)) := look_none HP.out fun e i j h => (DX.up hxl h).imp id fun h i2 j2 hmv => by
       obtain ⟨rfl, rfl, h3⟩ := h
       have h4 := jx_in h3
       rw [HXM.out] at h4
       obtain ⟨hmv, _⟩ := hmv
       rw [h4] at hmv
       dsimp only at hmv
       rcases hmv with ⟨h0, _⟩ | ⟨_, h5, _⟩
       ·omega
       ·rw [HOJ.out] at h5
        exact hm (Option.some.inj h5)
      go_upto_region 27 with fail
      go_quiet (fail)
      go_wp2
      go_roundw
      case rel => exact ⟨B, ag, x1 + 1, by go_num, hxl, HTT.out.drewN nq, HV.out, HL.out⟩
      case measure => simp [intOf]; omega
    ·have bj : ((i1 : Int) == (inn.length : Int)) = true := by have := HE.out.hi; simp; omega
     have HL : Hid (Pas inn out B0 ag B fun e i j => DX D0 a.arcs (jx b SB) i1 j1 e i j (x1 + 1)) := look_none HP.out fun e i j h => (DX.up hxl h).imp id fun h i2 j2 hmv => by
      obtain ⟨rfl, rfl, h3⟩ := h
      have h4 := jx_in h3
      rw [HXM.out] at h4
      obtain ⟨hmv, _⟩ := hmv
      rw [h4] at hmv
      dsimp only at hmv
      rcases hmv with ⟨h0, _⟩ | ⟨_, h5, _⟩
      ·omega
      ·rw [List.getElem?_eq_none (by omega)] at h5
       cases h5
     go_upto_region 27 with fail
     go_quiet (fail)
     go_wp2
     go_roundw
     case rel => exact ⟨B, ag, x1 + 1, by go_num, hxl, HTT.out.drewN nq, HV.out, HL.out⟩
     case measure => simp [intOf]; omega
   ·have hIz : I = 0 := by omega
    have HMI : Hid ((I = 0 ∧ i1 = i1) ∨ (0 < I ∧ inn[i1]? = some I ∧ i1 = i1 + 1)) := .inl ⟨hIz, rfl⟩
    have HR1 : Hid (i1 < inn.length + 1) := HE.out.hi
    clear hIz
    go_upto_region 29 with fail
    have HBR : Hid (i1 < inn.length + 1) := HR1.out
    by_cases hO : O = 0
    ·subst hO
     have HT' : Hid (EnvT SA SB N a b inn out i1 j1 i1 s s2 x I) := ⟨HE.out.hA, HE.out.hB, HE.out.hn, HE.out.hk, HE.out.hi, HE.out.hj, HR1.out, HXB.out.1, HXB.out.2.1, HXB.out.2.2, HE.out.hN, fun t ht => mem_jx (HXM.out ▸ List.getElem_mem hxl) (by unfold jx; rw [if_pos rfl]; exact List.mem_map.2 ⟨t, List.mem_range.2 ht, rfl⟩), fun t => ⟨by simpa [eA] using HMI.out, .inl ⟨.inl rfl, rfl⟩⟩⟩
     have HP0 : Hid (Pas inn out B0 ag B fun e i j => DM (fun e i j => DX D0 a.arcs (jx b SB) i1 j1 e i j x1) (eA SB ((s : Int), (s2 : Int), I, 0, (x : Int))) i1 j1 e i j 0) := HP.out.mono fun e i j h => DM.zero h
     go_wp2
     refine loopT SA SB N a b inn out ai ao ci co ra rb w wr2 B0 B ag i1 j1 i1 s s2 x bx I (DM (fun e i j => DX D0 a.arcs (jx b SB) i1 j1 e i j x1) (eA SB ((s : Int), (s2 : Int), I, 0, (x : Int))) i1 j1) _ _ _ _ _ _ _ _ _ _ _ _ _ _ _ _ _ _ _ _ _ _ _ _ _ _ _ _ _ _ _ _ _ _ _ _ _ _ _ _ _ _ _ _ _ _ _ _ _ _ _ _ _ _ _ _ _ _ _ _ _ _ _ _ _ _ _ _ _ _ _ _ _ _ _ _ _ _ _ _ _ _ _ _ _ _ _ _ _ _ _ _ _ _ _ _ _ _ _ _ _ _ _ _ _ _ _ _ _ _ _ _ _ _ _ _ _ _ _ _ _ _ _ _ _ _ _ _ _ _ _ _ _ _ _ _ _ _ _ _ _ _ _ _ _ _ _ _ _ _ _ _ _ _ _ _ _ _ _ _ _ _ _ _ _ _ _ _ _ _ _ _ _ _ _ _ _ _ _ _ _ _ _ _ _ _ _ _ _ _ _ _ _ _ _ _ _ _ _ _ _ _ _ _ _ _ _ _ _ _ _ _ _ _ _ _ _ _ _ _ _ _ _ _ _ _ _ _ _ _ _ _ _ _ _ _ _ _ _ _ _ _ _ _ _ _ _ _ _ _ _ _ _ _ _ _ _ _ _ _ _ _ _ _ _ _ _ _ _ _ _ _ _ _ _ _ _ _ _ _ _ _ _ _ _ _ _ _ _ _ _ _ _ _ _ _ _ _ _ _ _ _ _ _ _ _ _ _ _ _ _ _ _ _ _ _ _ _ _ HT' h5 hb7 (fun t e i j h => DM.up h) HTT.out hbox HV HP0 _ ?_
     dsimp only
     intro B ag wr3 v23 v114 v115 v116 v117 v118 v119 v120 v121 v122 v123 v124 v125 v126 v127 v128 v129 v130 v131 v132 v133 v134 v135 v136 v137 v138 v139 v140 v141 v142 v143 v144 htt3 hbox3 hinv3 hpas3
     have HP3 : Hid (Pas inn out B0 ag B fun e i j => DX D0 a.arcs (jx b SB) i1 j1 e i j (x1 + 1)) := hpas3.mono fun e i j h => (DX.up hxl h).imp id fun ⟨h1, h2, h3⟩ => ⟨h1, h2, by rw [HXM.out] at h3; unfold jx at h3; rw [if_pos rfl] at h3; exact h3⟩
     have HV3 : Hid _ := hinv3
     have HTT3 : Hid _ := htt3
     clear hpas3 hinv3 htt3 hbox3
     go_wp2
     go_roundw
     case rel => exact ⟨B, ag, x1 + 1, by go_num, hxl, HTT3.out, HV3.out, HP3.out⟩
     case measure => simp [intOf]; omega
    ·have bO : (O == 0) = false := by simp [hO]
     have HY' : Hid (EnvY SA SB N a b inn out ao w i1 j1 i1 s s2 x I O) := ⟨HE.out.hA, HE.out.hB, HE.out.hn, HE.out.hk, HE.out.hlB, HE.out.hi, HE.out.hj, HR1.out, HXB.out.1, HXB.out.2.1, HXB.out.2.2, HE.out.hN, fun y h => by obtain ⟨t, t2, yw, I, O, h1, h2, h3, h4, _, h5⟩ := HE.out.arcB y h; exact ⟨t, t2, yw, I, O, h1, h2, h3, h4, h5⟩, fun g hg h => mem_jx (HXM.out ▸ List.getElem_mem hxl) (by unfold jx; rw [if_neg hO]; refine List.mem_flatMap.2 ⟨g, hg, ?_⟩; unfold jy; rw [if_pos h]; simp), HMI.out, HE.out.lo⟩
     have HP0 : Hid (Pas inn out B0 ag B fun e i j => DX (fun e i j => DX D0 a.arcs (jx b SB) i1 j1 e i j x1) b.arcs (jy SB ((s : Int), (s2 : Int), I, O, (x : Int))) i1 j1 e i j 0) := HP.out.mono fun e i j h => DX.zero h
     have HDY : Hid (∀ y (h : y < b.arcs.length) e i j, DX (fun e i j => DX D0 a.arcs (jx b SB) i1 j1 e i j x1) b.arcs (jy SB ((s : Int), (s2 : Int), I, O, (x : Int))) i1 j1 e i j (y + 1) → DX (fun e i j => DX D0 a.arcs (jx b SB) i1 j1 e i j x1) b.arcs (jy SB ((s : Int), (s2 : Int), I, O, (x : Int))) i1 j1 e i j y ∨ ((b.arcs[y]).2.2.1 = O ∧ e = eX SB ((s : Int), (s2 : Int), I, O, (x : Int)) b.arcs[y] ∧ i = i1 ∧ j = j1)) := fun y h e i j hd => DX.up_y h hd
     go_wp2
     refine loopY SA SB N a b inn out ai ao ci co ra rb w wr2 B0 B ag i1 j1 i1 s s2 x bx I O ab cb (DX (fun e i j => DX D0 a.arcs (jx b SB) i1 j1 e i j x1) b.arcs (jy SB ((s : Int), (s2 : Int), I, O, (x : Int))) i1 j1) _ _ _ _ _ _ _ _ _ _ _ _ _ _ _ _ _ _ _ _ _ _ _ _ _ _ _ _ _ _ _ _ _ _ _ _ _ _ _ _ _ _ _ _ _ _ _ _ _ _ _ _ _ _ _ _ _ _ _ _ _ _ _ _ _ _ _ _ _ _ _ _ _ _ _ _ _ _ _ _ _ _ _ _ _ _ _ _ _ _ _ _ _ _ _ _ _ _ _ _ _ _ _ _ _ _ _ _ _ _ _ _ _ _ _ _ _ _ _ _ _ _ _ _ _ _ _ _ _ _ _ _ _ _ _ _ _ _ _ _ _ _ _ _ _ _ _ _ _ _ _ _ _ _ _ _ _ _ _ _ _ _ _ _ _ _ _ _ _ _ _ _ _ _ _ _ _ _ _ _ _ _ _ _ _ _ _ _ _ _ _ _ _ _ _ _ _ _ _ _ _ _ _ _ _ _ _ _ _ _ _ _ _ _ _ _ _ _ _ _ _ _ _ _ _ _ _ _ _ _ _ _ _ _ _ _ _ _ _ _ _ _ _ _ _ _ _ _ _ _ _ _ _ _ _ _ _ _ _ _ _ _ _ _ _ _ _ _ _ _ _ _ _ _ _ _ _ _ _ _ _ _ _ _ _ _ _ _ _ _ _ _ _ _ _ _ _ _ _ _ _ _ _ _ _ _ _ _ _ _ _ _ _ _ _ _ _ _ _ HY' h5 h51 hb7 HRB HDY HTT.out hbox HV HP0 _ ?_
     dsimp only
     intro B ag wr3 v25 v26 v27 v145 v146 v147 v148 v149 v150 v151 v152 v153 v154 v155 v156 v157 v158 v159 v160 v161 v162 v163 v164 v165 v166 v167 v168 v169 v170 v171 v172 v173 v174 v175 v176 v177 v178 v179 v180 v181 v182 v183 v184 v185 v186 v187 v188 v189 v190 v191 v192 v193 v194 v195 v196 v197 v198 v199 v200 v201 v202 v203 v204 v205 v206 v207 v208 v209 v210 htt3 hbox3 hinv3 hpas3
     have HP3 : Hid (Pas inn out B0 ag B fun e i j => DX D0 a.arcs (jx b SB) i1 j1 e i j (x1 + 1)) := hpas3.mono fun e i j h => take_all ((DX.up hxl h).imp id fun ⟨h1, h2, h3⟩ => ⟨h1, h2, by rw [HXM.out] at h3; unfold jx at h3; rw [if_neg hO] at h3; exact h3⟩)
     have HV3 : Hid _ := hinv3
     have HTT3 : Hid _ := htt3
     clear hpas3 hinv3 htt3 hbox3 hO
     go_wp2
     go_roundw
     case rel => exact ⟨B, ag, x1 + 1, by go_num, hxl, HTT3.out, HV3.out, HP3.out⟩
     case measure => simp [intOf]; omega
  ·have hxl' : ¬ (x1 : Int) < (a.arcs.length : Int) := by omega
   obtain rfl : x1 = a.arcs.length := by omega
   go_wp2
   exact HX.out _ _ _ _ _ _ _ _ _ _ _ _ _ _ _ _ _ _ _ _ _ _ _ _ _ _ _ _ _ _ _ _ _ _ _ _ _ _ _ _ _ _ _ _ _ _ _ _ _ _ _ _ _ _ _ _ _ _ _ _ _ _ _ _ _ _ _ _ _ _ _ _ _ _ _ _ _ _ _ _ _ _ _ _ _ _ _ _ _ _ _ _ _ _ _ _ _ _ _ _ _ _ _ _ _ _ _ _ _ _ _ _ _ _ _ _ _ _ _ _ _ _ _ _ _ _ _ _ _ _ _ _ _ _ _ _ _ _ _ _ _ _ HTT0.out HV.out HP.out
end Go.Proofs.YtfjocafepigijaaDoor.Tc
