/- The document's ThroughCost: a round over the arcs of the second machine that read nothing. Conditions: numbers are small. -/
import Derived.Test.YtfjocafepigijaaDoorTh0
import Derived.Deep.LoopGhost
import Derived.Deep.QuietTactic
import Derived.BigQuiet
import Derived.Deep.RegionHeld
import Derived.Deep.CutRange
import Derived.Deep.RegionHeld3
namespace Go.Proofs.YtfjocafepigijaaDoor.Tc
open Go.RowKit Mv Wk Bw Th CR

noncomputable def bodyB : Code := ((Tryd.f16.body.map loops).getD []).getD 7 .skip
set_option maxHeartbeats 8000000 in
set_option maxRecDepth 1000000 in
theorem loopB (SA SB N : Nat) (a b : M) (inn out : List Int) (ai ao : Option Addr) (ci co : Nat) (ra rb : Array Value) (w wi : World) (B0 B : List Nat) (ag : Bool) (i1 j1 : Nat) (ab : Option Addr) (cb : Nat) (D0 : A5 → Nat → Nat → Prop) (c0 c1 c6 c7 c8 c12 c16 c19 c20 c21 c22 c23 c24 c25 c26 c27 c33 c34 c35 c36 c37 c38 c39 c40 c41 c42 c43 c44 c45 c46 c47 c48 c49 c50 c51 c52 c53 c54 c55 c56 c57 c58 c59 c60 c61 c62 c63 c64 c65 c66 c67 c68 c69 c70 c71 c72 c73 c74 c75 c76 c77 c78 c79 c80 c81 c82 c83 c84 c85 c86 c87 c88 c89 c90 c91 c92 c93 c94 c95 c96 c97 c98 c99 c100 c101 c102 c103 c104 c105 c106 c107 c108 c109 c110 c111 c112 c113 c114 c115 c116 c117 c118 c119 c120 c121 c122 c123 c124 c125 c126 c127 c128 c129 c130 c131 c132 c133 c134 c135 c136 c137 c138 c139 c140 c141 c142 c143 c144 c145 c146 c147 c148 c149 c150 c151 c152 c153 c154 c155 c156 c157 c158 c159 c160 c161 c162 c163 c164 c165 c166 c167 c168 c169 c170 c171 c172 c173 c174 c175 c176 c177 c178 c179 c180 c181 c182 c183 c184 c185 c186 c187 c188 c189 c190 c191 c192 c193 c194 c195 c196 c197 c198 c199 c200 c201 c202 c203 c204 c205 c206 c207 c208 c209 c210 c276 c277 c278 c279 c280 c281 c282 c283 c284 c285 c286 c287 c288 c289 c290 c291 c292 c293 c294 c295 c296 c297 c298 c299 c300 c301 c302 c303 c304 c305 c306 c307 c308 c309 c310 c311 c312 c313 c314 c315 c316 c317 c318 c319 c320 c321 c322 c323 c324 c325 c326 c327 c328 c329 c330 c331 c332 c333 : Value) (u29 u30 u31 u32 u211 u212 u213 u214 u215 u216 u217 u218 u219 u220 u221 u222 u223 u224 u225 u226 u227 u228 u229 u230 u231 u232 u233 u234 u235 u236 u237 u238 u239 u240 u241 u242 u243 u244 u245 u246 u247 u248 u249 u250 u251 u252 u253 u254 u255 u256 u257 u258 u259 u260 u261 u262 u263 u264 u265 u266 u267 u268 u269 u270 u271 u272 u273 u274 u275 : Value)
  (HE : Hid (EnvX SA SB N a b inn out ai ao w i1 j1)) (h4 : ra[0]? = some (.int .i64 (SA : Int))) (h5 : rb[0]? = some (.int .i64 (SB : Int))) (h51 : rb[1]? = some (.slice ab b.arcs.length cb))
  (HRB : Hid (ArcRow w ab b.arcs))
  (ht : Tt w wi ra rb (inn.length + 1) (out.length + 1) N B ag) (HV : Hid (InvP (prM a b SA SB) inn out true (SA * SB) B)) (HP : Hid (Pas inn out B0 ag B D0)) (Q0 : Exit → Act → World → Prop)
  (hexit : ∀ (B : List Nat) (ag : Bool) (wr : World) (v29 v30 v31 v32 v211 v212 v213 v214 v215 v216 v217 v218 v219 v220 v221 v222 v223 v224 v225 v226 v227 v228 v229 v230 v231 v232 v233 v234 v235 v236 v237 v238 v239 v240 v241 v242 v243 v244 v245 v246 v247 v248 v249 v250 v251 v252 v253 v254 v255 v256 v257 v258 v259 v260 v261 v262 v263 v264 v265 v266 v267 v268 v269 v270 v271 v272 v273 v274 v275 : Value), Tt w wr ra rb (inn.length + 1) (out.length + 1) N B ag → InvP (prM a b SA SB) inn out true (SA * SB) B → Pas inn out B0 ag B (fun e i j => DX D0 b.arcs (jb SA SB) i1 j1 e i j b.arcs.length) → Q0 (.exit 14) ⟨#[c0, c1, .slice ai inn.length ci, .slice ao out.length co, .pointer (some ⟨w.heap.size, 0, none⟩), .pointer (some ⟨w.heap.size + 1, 0, none⟩), c6, c7, c8, .pointer (some ⟨w.heap.size + 2, 0, none⟩), .pointer (some ⟨w.heap.size + 3, 0, none⟩), .pointer (some ⟨w.heap.size + 5, 0, none⟩), c12, .func (.func 35) #[] #[.pointer (some ⟨w.heap.size + 1, 0, none⟩), .pointer (some ⟨w.heap.size + 2, 0, none⟩), .pointer (some ⟨w.heap.size + 3, 0, none⟩)], .pointer (some ⟨w.heap.size + 6, 0, none⟩), .func (.func 36) #[] #[.pointer (some ⟨w.heap.size + 5, 0, none⟩), .pointer (some ⟨w.heap.size + 6, 0, none⟩)], c16, .int .i64 (i1 : Int), .int .i64 (j1 : Int), c19, c20, c21, c22, c23, c24, c25, c26, c27, .int .i64 (b.arcs.length : Int), v29, v30, v31, v32, c33, c34, c35, c36, c37, c38, c39, c40, c41, c42, c43, c44, c45, c46, c47, c48, c49, c50, c51, c52, c53, c54, c55, c56, c57, c58, c59, c60, c61, c62, c63, c64, c65, c66, c67, c68, c69, c70, c71, c72, c73, c74, c75, c76, c77, c78, c79, c80, c81, c82, c83, c84, c85, c86, c87, c88, c89, c90, c91, c92, c93, c94, c95, c96, c97, c98, c99, c100, c101, c102, c103, c104, c105, c106, c107, c108, c109, c110, c111, c112, c113, c114, c115, c116, c117, c118, c119, c120, c121, c122, c123, c124, c125, c126, c127, c128, c129, c130, c131, c132, c133, c134, c135, c136, c137, c138, c139, c140, c141, c142, c143, c144, c145, c146, c147, c148, c149, c150, c151, c152, c153, c154, c155, c156, c157, c158, c159, c160, c161, c162, c163, c164, c165, c166, c167, c168, c169, c170, c171, c172, c173, c174, c175, c176, c177, c178, c179, c180, c181, c182, c183, c184, c185, c186, c187, c188, c189, c190, c191, c192, c193, c194, c195, c196, c197, c198, c199, c200, c201, c202, c203, c204, c205, c206, c207, c208, c209, c210, v211, v212, v213, v214, v215, v216, v217, v218, v219, v220, v221, v222, v223, v224, v225, v226, v227, v228, v229, v230, v231, v232, v233, v234, v235, v236, v237, v238, v239, v240, v241, v242, v243, v244, v245, v246, v247, v248, v249, v250, v251, v252, v253, v254, v255, v256, v257, v258, v259, v260, v261, v262, v263, v264, v265, v266, v267, v268, v269, v270, v271, v272, v273, v274, v275, c276, c277, c278, c279, c280, c281, c282, c283, c284, c285, c286, c287, c288, c289, c290, c291, c292, c293, c294, c295, c296, c297, c298, c299, c300, c301, c302, c303, c304, c305, c306, c307, c308, c309, c310, c311, c312, c313, c314, c315, c316, c317, c318, c319, c320, c321, c322, c323, c324, c325, c326, c327, c328, c329, c330, c331, c332, c333], []⟩ wr) :
  Code.wp Tryd.prog (Code.loop bodyB) Q0 ⟨#[c0, c1, .slice ai inn.length ci, .slice ao out.length co, .pointer (some ⟨w.heap.size, 0, none⟩), .pointer (some ⟨w.heap.size + 1, 0, none⟩), c6, c7, c8, .pointer (some ⟨w.heap.size + 2, 0, none⟩), .pointer (some ⟨w.heap.size + 3, 0, none⟩), .pointer (some ⟨w.heap.size + 5, 0, none⟩), c12, .func (.func 35) #[] #[.pointer (some ⟨w.heap.size + 1, 0, none⟩), .pointer (some ⟨w.heap.size + 2, 0, none⟩), .pointer (some ⟨w.heap.size + 3, 0, none⟩)], .pointer (some ⟨w.heap.size + 6, 0, none⟩), .func (.func 36) #[] #[.pointer (some ⟨w.heap.size + 5, 0, none⟩), .pointer (some ⟨w.heap.size + 6, 0, none⟩)], c16, .int .i64 (i1 : Int), .int .i64 (j1 : Int), c19, c20, c21, c22, c23, c24, c25, c26, c27, .int .i64 0, u29, u30, u31, u32, c33, c34, c35, c36, c37, c38, c39, c40, c41, c42, c43, c44, c45, c46, c47, c48, c49, c50, c51, c52, c53, c54, c55, c56, c57, c58, c59, c60, c61, c62, c63, c64, c65, c66, c67, c68, c69, c70, c71, c72, c73, c74, c75, c76, c77, c78, c79, c80, c81, c82, c83, c84, c85, c86, c87, c88, c89, c90, c91, c92, c93, c94, c95, c96, c97, c98, c99, c100, c101, c102, c103, c104, c105, c106, c107, c108, c109, c110, c111, c112, c113, c114, c115, c116, c117, c118, c119, c120, c121, c122, c123, c124, c125, c126, c127, c128, c129, c130, c131, c132, c133, c134, c135, c136, c137, c138, c139, c140, c141, c142, c143, c144, c145, c146, c147, c148, c149, c150, c151, c152, c153, c154, c155, c156, c157, c158, c159, c160, c161, c162, c163, c164, c165, c166, c167, c168, c169, c170, c171, c172, c173, c174, c175, c176, c177, c178, c179, c180, c181, c182, c183, c184, c185, c186, c187, c188, c189, c190, c191, c192, c193, c194, c195, c196, c197, c198, c199, c200, c201, c202, c203, c204, c205, c206, c207, c208, c209, c210, u211, u212, u213, u214, u215, u216, u217, u218, u219, u220, u221, u222, u223, u224, u225, u226, u227, u228, u229, u230, u231, u232, u233, u234, u235, u236, u237, u238, u239, u240, u241, u242, u243, u244, u245, u246, u247, u248, u249, u250, u251, u252, u253, u254, u255, u256, u257, u258, u259, u260, u261, u262, u263, u264, u265, u266, u267, u268, u269, u270, u271, u272, u273, u274, u275, c276, c277, c278, c279, c280, c281, c282, c283, c284, c285, c286, c287, c288, c289, c290, c291, c292, c293, c294, c295, c296, c297, c298, c299, c300, c301, c302, c303, c304, c305, c306, c307, c308, c309, c310, c311, c312, c313, c314, c315, c316, c317, c318, c319, c320, c321, c322, c323, c324, c325, c326, c327, c328, c329, c330, c331, c332, c333], []⟩ wi := by
 dsimp only at hexit ⊢
 conv => arg 2; arg 1; whnf
 have HX : Hid _ := hexit
 clear hexit
 go_loopw [28] (fun tv wr => ∃ (B : List Nat) (ag : Bool) (y1 : Nat), tv = .int .i64 (y1 : Int) ∧ y1 ≤ b.arcs.length ∧ Tt w wr ra rb (inn.length + 1) (out.length + 1) N B ag ∧ InvP (prM a b SA SB) inn out true (SA * SB) B ∧ Pas inn out B0 ag B (fun e i j => DX D0 b.arcs (jb SA SB) i1 j1 e i j y1)) (fun tv _ => b.arcs.length - (intOf tv).toNat)
 case atStart => exact ⟨B, ag, 0, rfl, Nat.zero_le _, ht, HV.out, HP.out.mono fun e i j h => DX.zero h⟩
 case round =>
  clear ht HP HV
  obtain ⟨B, ag, y1, rfl, hyl0, htt, hinv, hpas⟩ := hrel
  have HTT0 : Hid (Tt w wr ra rb (inn.length + 1) (out.length + 1) N B ag) := htt
  have HV : Hid (InvP (prM a b SA SB) inn out true (SA * SB) B) := hinv
  have HP : Hid (Pas inn out B0 ag B fun e i j => DX D0 b.arcs (jb SA SB) i1 j1 e i j y1) := hpas
  have u51 : wr.cell? ⟨w.heap.size + 1, 1, none⟩ = some (.slice ab b.arcs.length cb) := (cell_of_row _ _ 1 _ _ _ htt.x5).trans h51
  have hl120 : b.arcs.length ≤ 120 := HE.out.hlB
  clear htt hinv hpas
  by_cases hyl : y1 < b.arcs.length
  ·have hyl' : (y1 : Int) < (b.arcs.length : Int) := by omega
   obtain ⟨bb, off, rfl, hbb, hcc⟩ := HRB.out.resolve_left (by omega)
   obtain ⟨t, t2, y, I, O, hy, hsA, hs2A, hxw, hI0, hO0⟩ := HE.out.arcB y1 hyl
   have HYM : Hid (b.arcs[y1] = ((t : Int), (t2 : Int), I, O, (y : Int))) := hy
   have HYB : Hid (t < SB ∧ t2 < SB ∧ y ≤ 1000000) := ⟨hsA, hs2A, hxw⟩
   have hat := acs_at b.arcs y1 hyl
   rw [hy] at hat
   have a0 := (HTT0.out.old (q := off + y1 * 5) hbb).trans (hcc _ _ hat.1)
   have a1 := (HTT0.out.old (q := off + (y1 * 5 + 1)) hbb).trans (hcc _ _ hat.2.1)
   have a2 := (HTT0.out.old (q := off + (y1 * 5 + 2)) hbb).trans (hcc _ _ hat.2.2.1)
   have a3 := (HTT0.out.old (q := off + (y1 * 5 + 3)) hbb).trans (hcc _ _ hat.2.2.2.1)
   have a4 := (HTT0.out.old (q := off + (y1 * 5 + 4)) hbb).trans (hcc _ _ hat.2.2.2.2)
   simp only [← Nat.add_assoc] at a1 a2 a3 a4
   clear hy hsA hs2A hxw hat hcc
   go_upto_region 53 with fail
   have hbox := heap_alloc_new wr (.cells #[.int .i64 (t : Int), .int .i64 (t2 : Int), .int .i64 I, .int .i64 O, .int .i64 (y : Int)] 64)
   have HTT : Hid (Tt w (wr.alloc (.cells #[.int .i64 (t : Int), .int .i64 (t2 : Int), .int .i64 I, .int .i64 O, .int .i64 (y : Int)] 64)) ra rb (inn.length + 1) (out.length + 1) N B ag) := HTT0.out.alloc _
   have hb7 : w.heap.size + 7 ≤ wr.heap.size := lt_get HTT0.out.x14
   clear a0 a1 a2 a3 a4 u51 HTT0
   generalize hV : wr.alloc (.cells #[.int .i64 (t : Int), .int .i64 (t2 : Int), .int .i64 I, .int .i64 O, .int .i64 (y : Int)] 64) = wr2 at *
   clear hV
   generalize wr.heap.size = bx at *
   have k2 := cell_of_row _ _ 2 _ _ _ hbox
   have k3 := cell_of_row _ _ 3 _ _ _ hbox
   by_cases hI : 0 < I
   ·skip
    have HL : Hid (Pas inn out B0 ag B fun e i j => DX D0 b.arcs (jb SA SB) i1 j1 e i j (y1 + 1)) := HP.out.mono fun e i j h => (DX.up hyl h).resolve_right fun ⟨_, _, h3⟩ => by rw [HYM.out] at h3; unfold jb at h3; rw [if_neg (show ¬ I = 0 by omega)] at h3; cases h3
    skip
    go_wp2
    go_roundw
    case rel => exact ⟨B, ag, y1 + 1, by go_num, hyl, HTT.out, HV.out, HL.out⟩
    case measure => simp [intOf]; omega
   ·obtain rfl : I = 0 := by omega
    clear hI hI0
    by_cases hO : 0 < O
    ·by_cases hjo : j1 < out.length
     ·have bj : ((j1 : Int) == (out.length : Int)) = false := by simp; omega
      obtain ⟨bo, oo, rfl, hbo, hco⟩ := HE.out.lo.resolve_left (by omega)
      have o1 := (HTT.out.old (q := oo + j1) hbo).trans (hco j1 (.int .i64 out[j1]) (by simp [hjo]))
      have hjo' : (j1 : Int) < (out.length : Int) := by omega
      obtain ⟨oj, hoj⟩ : ∃ oj, out[j1] = oj := ⟨_, rfl⟩
      have HOJ : Hid (out[j1]? = some oj) := by show _ = _; rw [List.getElem?_eq_getElem hjo, hoj]
      rw [hoj] at o1
      clear hco hoj
      by_cases hm : oj = O
      ·have bm : (oj != O) = false := by simp [hm]
       obtain ⟨r1, hr1, hwr⟩ := wrap_up (n := j1) (le_mil HE.out.hj HE.out.hk)
       have HMO : Hid (((O = 0 ∨ true = false) ∧ r1 = j1) ∨ (0 < O ∧ true = true ∧ out[j1]? = some O ∧ r1 = j1 + 1)) := .inr ⟨hO, rfl, by rw [HOJ.out, hm], hr1⟩
       have HW1 : Hid (r1 < out.length + 1) := by show _ < _; rw [hr1]; exact Nat.succ_lt_succ hjo
       clear hm hr1
       go_upto_region 55 with fail
       go_quiet (fail)
       go_upto_region 57 with fail
       have HTT : Hid (Tt w (wr2.drewN nq) ra rb (inn.length + 1) (out.length + 1) N B ag) := HTT.out.drewN nq
       have hbox : (wr2.drewN nq).heap[bx]? = _ := hbox
       generalize hVq : wr2.drewN nq = wr2 at *
       clear hVq
       rw [hwr]
       have HS' : Hid (EnvS SA SB N a b inn out i1 j1 r1 t t2 y O) := ⟨HE.out.hA, HE.out.hB, HE.out.hn, HE.out.hk, HE.out.hi, HE.out.hj, HW1.out, HYB.out.1, HYB.out.2.1, HYB.out.2.2, HE.out.hN, fun s hs => mem_jb (HYM.out ▸ List.getElem_mem hyl) (by unfold jb; rw [if_pos rfl]; exact List.mem_map.2 ⟨s, List.mem_range.2 hs, rfl⟩), fun s => ⟨.inl ⟨rfl, rfl⟩, HMO.out⟩⟩
       have HP0 : Hid (Pas inn out B0 ag B fun e i j => DM (fun e i j => DX D0 b.arcs (jb SA SB) i1 j1 e i j y1) (eB SB ((t : Int), (t2 : Int), 0, O, (y : Int))) i1 j1 e i j 0) := HP.out.mono fun e i j h => DM.zero h
       go_wp2
       refine loopS SA SB N a b inn out ai (some ⟨bo, oo, none⟩) ci co ra rb w wr2 B0 B ag i1 j1 r1 t t2 y bx O (DM (fun e i j => DX D0 b.arcs (jb SA SB) i1 j1 e i j y1) (eB SB ((t : Int), (t2 : Int), 0, O, (y : Int))) i1 j1) _ _ _ _ _ _ _ _ _ _ _ _ _ _ _ _ _ _ _ _ _ _ _ _ _ _ _ _ _ _ _ _ _ _ _ _ _ _ _ _ _ _ _ _ _ _ _ _ _ _ _ _ _ _ _ _ _ _ _ _ _ _ _ _ _ _ _ _ _ _ _ _ _ _ _ _ _ _ _ _ _ _ _ _ _ _ _ _ _ _ _ _ _ _ _ _ _ _ _ _ _ _ _ _ _ _ _ _ _ _ _ _ _ _ _ _ _ _ _ _ _ _ _ _ _ _ _ _ _ _ _ _ _ _ _ _ _ _ _ _ _ _ _ _ _ _ _ _ _ _ _ _ _ _ _ _ _ _ _ _ _ _ _ _ _ _ _ _ _ _ _ _ _ _ _ _ _ _ _ _ _ _ _ _ _ _ _ _ _ _ _ _ _ _ _ _ _ _ _ _ _ _ _ _ _ _ _ _ _ _ _ _ _ _ _ _ _ _ _ _ _ _ _ _ _ _ _ _ _ _ _ _ _ _ _ _ _ _ _ _ _ _ _ _ _ _ _ _ _ _ _ _ _ _ _ _ _ _ _ _ _ _ _ _ _ _ _ _ _ _ _ _ _ _ _ _ _ _ _ _ _ _ _ _ _ _ _ _ _ _ _ _ _ _ _ _ _ _ _ _ _ _ _ _ _ _ _ _ _ _ _ _ _ _ _ _ _ _ _ HS' h4 h5 hb7 (fun t e i j h => DM.up h) HTT.out hbox HV HP0 _ ?_
       dsimp only
       intro B ag wr3 v32 v245 v246 v247 v248 v249 v250 v251 v252 v253 v254 v255 v256 v257 v258 v259 v260 v261 v262 v263 v264 v265 v266 v267 v268 v269 v270 v271 v272 v273 v274 v275 htt3 hbox3 hinv3 hpas3
       have HP3 : Hid (Pas inn out B0 ag B fun e i j => DX D0 b.arcs (jb SA SB) i1 j1 e i j (y1 + 1)) := hpas3.mono fun e i j h => (DX.up hyl h).imp id fun ⟨h1, h2, h3⟩ => ⟨h1, h2, by rw [HYM.out] at h3; unfold jb at h3; rw [if_pos rfl] at h3; exact h3⟩
       have HV3 : Hid _ := hinv3
       have HTT3 : Hid _ := htt3
       clear hpas3 hinv3 htt3 hbox3
       go_wp2
       go_roundw
       case rel => exact ⟨B, ag, y1 + 1, by go_num, hyl, HTT3.out, HV3.out, HP3.out⟩
       case measure => simp [intOf]; omega
      ·have bm : (oj != O) = true := by simp [hm]
       have HL : Hid (Pas inn out B0 ag B fun e i j => DX D0 b.arcs (jb SA SB) i1 j1 e i j (y1 + 1)) := look_none HP.out fun e i j h => (DX.up hyl h).imp id fun h i2 j2 hmv => by
        obtain ⟨rfl, rfl, h3⟩ := h
        rw [HYM.out] at h3
        unfold jb at h3
        rw [if_pos rfl] at h3
        obtain ⟨s, _, rfl⟩ := List.mem_map.1 h3
        obtain ⟨_, hmv⟩ := hmv
        simp only [eB] at hmv
        rcases hmv with ⟨h0 | h0, _⟩ | ⟨_, _, h3, _⟩
        ·omega
        ·cases h0
        ·rw [HOJ.out] at h3
         exact hm (Option.some.inj h3)
       go_upto_region 55 with fail
       go_quiet (fail)
       go_wp2
       go_roundw
       case rel => exact ⟨B, ag, y1 + 1, by go_num, hyl, HTT.out.drewN nq, HV.out, HL.out⟩
       case measure => simp [intOf]; omega
     ·have bj : ((j1 : Int) == (out.length : Int)) = true := by have := HE.out.hj; simp; omega
      have HL : Hid (Pas inn out B0 ag B fun e i j => DX D0 b.arcs (jb SA SB) i1 j1 e i j (y1 + 1)) := look_none HP.out fun e i j h => (DX.up hyl h).imp id fun h i2 j2 hmv => by
       obtain ⟨rfl, rfl, h3⟩ := h
       rw [HYM.out] at h3
       unfold jb at h3
       rw [if_pos rfl] at h3
       obtain ⟨s, _, rfl⟩ := List.mem_map.1 h3
       obtain ⟨_, hmv⟩ := hmv
       simp only [eB] at hmv
       rcases hmv with ⟨h0 | h0, _⟩ | ⟨_, _, h3, _⟩
       ·omega
       ·cases h0
       ·rw [List.getElem?_eq_none (by omega)] at h3
        cases h3
      go_upto_region 55 with fail
      go_quiet (fail)
      go_wp2
      go_roundw
      case rel => exact ⟨B, ag, y1 + 1, by go_num, hyl, HTT.out.drewN nq, HV.out, HL.out⟩
      case measure => simp [intOf]; omega
    ·obtain rfl : O = 0 := by omega
     have HMO : Hid ((((0 : Int) = 0 ∨ true = false) ∧ j1 = j1) ∨ (0 < (0 : Int) ∧ true = true ∧ out[j1]? = some 0 ∧ j1 = j1 + 1)) := .inl ⟨.inl rfl, rfl⟩
     have HW1 : Hid (j1 < out.length + 1) := HE.out.hj
     clear hO hO0
     go_upto_region 57 with fail
     have HS' : Hid (EnvS SA SB N a b inn out i1 j1 j1 t t2 y 0) := ⟨HE.out.hA, HE.out.hB, HE.out.hn, HE.out.hk, HE.out.hi, HE.out.hj, HW1.out, HYB.out.1, HYB.out.2.1, HYB.out.2.2, HE.out.hN, fun s hs => mem_jb (HYM.out ▸ List.getElem_mem hyl) (by unfold jb; rw [if_pos rfl]; exact List.mem_map.2 ⟨s, List.mem_range.2 hs, rfl⟩), fun s => ⟨.inl ⟨rfl, rfl⟩, HMO.out⟩⟩
     have HP0 : Hid (Pas inn out B0 ag B fun e i j => DM (fun e i j => DX D0 b.arcs (jb SA SB) i1 j1 e i j y1) (eB SB ((t : Int), (t2 : Int), 0, 0, (y : Int))) i1 j1 e i j 0) := HP.out.mono fun e i j h => DM.zero h
     go_wp2
     refine loopS SA SB N a b inn out ai ao ci co ra rb w wr2 B0 B ag i1 j1 j1 t t2 y bx 0 (DM (fun e i j => DX D0 b.arcs (jb SA SB) i1 j1 e i j y1) (eB SB ((t : Int), (t2 : Int), 0, 0, (y : Int))) i1 j1) _ _ _ _ _ _ _ _ _ _ _ _ _ _ _ _ _ _ _ _ _ _ _ _ _ _ _ _ _ _ _ _ _ _ _ _ _ _ _ _ _ _ _ _ _ _ _ _ _ _ _ _ _ _ _ _ _ _ _ _ _ _ _ _ _ _ _ _ _ _ _ _ _ _ _ _ _ _ _ _ _ _ _ _ _ _ _ _ _ _ _ _ _ _ _ _ _ _ _ _ _ _ _ _ _ _ _ _ _ _ _ _ _ _ _ _ _ _ _ _ _ _ _ _ _ _ _ _ _ _ _ _ _ _ _ _ _ _ _ _ _ _ _ _ _ _ _ _ _ _ _ _ _ _ _ _ _ _ _ _ _ _ _ _ _ _ _ _ _ _ _ _ _ _ _ _ _ _ _ _ _ _ _ _ _ _ _ _ _ _ _ _ _ _ _ _ _ _ _ _ _ _ _ _ _ _ _ _ _ _ _ _ _ _ _ _ _ _ _ _ _ _ _ _ _ _ _ _ _ _ _ _ _ _ _ _ _ _ _ _ _ _ _ _ _ _ _ _ _ _ _ _ _ _ _ _ _ _ _ _ _ _ _ _ _ _ _ _ _ _ _ _ _ _ _ _ _ _ _ _ _ _ _ _ _ _ _ _ _ _ _ _ _ _ _ _ _ _ _ _ _ _ _ _ _ _ _ _ _ _ _ _ _ _ _ _ _ _ _ HS' h4 h5 hb7 (fun t e i j h => DM.up h) HTT.out hbox HV HP0 _ ?_
     dsimp only
     intro B ag wr3 v32 v245 v246 v247 v248 v249 v250 v251 v252 v253 v254 v255 v256 v257 v258 v259 v260 v261 v262 v263 v264 v265 v266 v267 v268 v269 v270 v271 v272 v273 v274 v275 htt3 hbox3 hinv3 hpas3
     have HP3 : Hid (Pas inn out B0 ag B fun e i j => DX D0 b.arcs (jb SA SB) i1 j1 e i j (y1 + 1)) := hpas3.mono fun e i j h => (DX.up hyl h).imp id fun ⟨h1, h2, h3⟩ => ⟨h1, h2, by rw [HYM.out] at h3; unfold jb at h3; rw [if_pos rfl] at h3; exact h3⟩
     have HV3 : Hid _ := hinv3
     have HTT3 : Hid _ := htt3
     clear hpas3 hinv3 htt3 hbox3
     go_wp2
     go_roundw
     case rel => exact ⟨B, ag, y1 + 1, by go_num, hyl, HTT3.out, HV3.out, HP3.out⟩
     case measure => simp [intOf]; omega
  ·have hyl' : ¬ (y1 : Int) < (b.arcs.length : Int) := by omega
   obtain rfl : y1 = b.arcs.length := by omega
   go_wp2
   exact HX.out _ _ _ _ _ _ _ _ _ _ _ _ _ _ _ _ _ _ _ _ _ _ _ _ _ _ _ _ _ _ _ _ _ _ _ _ _ _ _ _ _ _ _ _ _ _ _ _ _ _ _ _ _ _ _ _ _ _ _ _ _ _ _ _ _ _ _ _ _ _ _ _ HTT0.out HV.out HP.out
end Go.Proofs.YtfjocafepigijaaDoor.Tc
