/- The document's ThroughCost: a round over the states of the first machine. Conditions: numbers are small. -/
import Derived.Test.YtfjocafepigijaaDoorSkM
import Derived.Test.YtfjocafepigijaaDoorTe
import Derived.Deep.LoopGhost
import Derived.Deep.QuietTactic
import Derived.BigQuiet
import Derived.Deep.RegionHeld
import Derived.Deep.CutRange
import Derived.Deep.RegionHeld3
namespace Go.Proofs.YtfjocafepigijaaDoor.Tc
open Go.RowKit Mv Wk Bw Th CR

noncomputable def bodyS : Code := ((Tryd.f16.body.map loops).getD []).getD 8 .skip
structure EnvS (SA SB N : Nat) (a b : M) (inn out : List Int) (i1 j1 w1 t t2 y : Nat) (O0 : Int) : Prop where
 hA : SA ≤ 40
 hB : SB ≤ 40
 hn : inn.length ≤ 8
 hk : out.length ≤ 8
 hi : i1 < inn.length + 1
 hj : j1 < out.length + 1
 hw : w1 < out.length + 1
 ht : t < SB
 ht2 : t2 < SB
 hy : y ≤ 1000000
 hN : N = SA * SB * (inn.length + 1) * (out.length + 1)
 mem : ∀ s, s < SA → eB SB ((t : Int), (t2 : Int), 0, O0, (y : Int)) s ∈ (prM a b SA SB).arcs
 mv : ∀ s, Wk.Move inn out true (eB SB ((t : Int), (t2 : Int), 0, O0, (y : Int)) s) i1 j1 i1 w1
theorem eb_1 (SB t t2 y s : Nat) (O0 : Int) : (eB SB ((t : Int), (t2 : Int), 0, O0, (y : Int)) s).1 = ((s * SB + t : Nat) : Int) := by simp [eB]
theorem eb_2 (SB t t2 y s : Nat) (O0 : Int) : (eB SB ((t : Int), (t2 : Int), 0, O0, (y : Int)) s).2.1 = ((s * SB + t2 : Nat) : Int) := by simp [eB]
theorem eb_5 (SB t t2 y s : Nat) (O0 : Int) : (eB SB ((t : Int), (t2 : Int), 0, O0, (y : Int)) s).2.2.2.2 = (y : Int) := rfl
theorem wrap_pp {p x y : Nat} (hp : p < dear) (hx : x + y ≤ 2000000) : ∃ zz z : Nat, z = p + (x + y) ∧ IntKind.i64.wrap ((p : Int) + (x : Int)) = (zz : Int) ∧ IntKind.i64.wrap ((zz : Int) + (y : Int)) = (z : Int) := by
 refine ⟨p + x, p + (x + y), rfl, ?_, ?_⟩ <;> (unfold dear at hp; rw [IntKind.wrap_i64]; omega)
set_option maxHeartbeats 8000000 in
set_option maxRecDepth 1000000 in
theorem loopS (SA SB N : Nat) (a b : M) (inn out : List Int) (ai ao : Option Addr) (ci co : Nat) (ra rb : Array Value) (w wi : World) (B0 B : List Nat) (ag : Bool) (i1 j1 w1 t t2 y bx : Nat) (O0 : Int) (DT : A5 → Nat → Nat → Nat → Prop) (c0 c1 c6 c7 c8 c12 c16 c19 c20 c21 c22 c23 c24 c25 c26 c27 c28 c33 c34 c35 c36 c37 c38 c39 c40 c41 c42 c43 c44 c45 c46 c47 c48 c49 c50 c51 c52 c53 c54 c55 c56 c57 c58 c59 c60 c61 c62 c63 c64 c65 c66 c67 c68 c69 c70 c71 c72 c73 c74 c75 c76 c77 c78 c79 c80 c81 c82 c83 c84 c85 c86 c87 c88 c89 c90 c91 c92 c93 c94 c95 c96 c97 c98 c99 c100 c101 c102 c103 c104 c105 c106 c107 c108 c109 c110 c111 c112 c113 c114 c115 c116 c117 c118 c119 c120 c121 c122 c123 c124 c125 c126 c127 c128 c129 c130 c131 c132 c133 c134 c135 c136 c137 c138 c139 c140 c141 c142 c143 c144 c145 c146 c147 c148 c149 c150 c151 c152 c153 c154 c155 c156 c157 c158 c159 c160 c161 c162 c163 c164 c165 c166 c167 c168 c169 c170 c171 c172 c173 c174 c175 c176 c177 c178 c179 c180 c181 c182 c183 c184 c185 c186 c187 c188 c189 c190 c191 c192 c193 c194 c195 c196 c197 c198 c199 c200 c201 c202 c203 c204 c205 c206 c207 c208 c209 c210 c211 c212 c213 c214 c215 c216 c217 c218 c219 c220 c221 c222 c223 c224 c225 c226 c227 c228 c229 c230 c231 c232 c233 c234 c235 c236 c237 c238 c239 c240 c241 c242 c243 c244 c276 c277 c278 c279 c280 c281 c282 c283 c284 c285 c286 c287 c288 c289 c290 c291 c292 c293 c294 c295 c296 c297 c298 c299 c300 c301 c302 c303 c304 c305 c306 c307 c308 c309 c310 c311 c312 c313 c314 c315 c316 c317 c318 c319 c320 c321 c322 c323 c324 c325 c326 c327 c328 c329 c330 c331 c332 c333 : Value) (u32 u245 u246 u247 u248 u249 u250 u251 u252 u253 u254 u255 u256 u257 u258 u259 u260 u261 u262 u263 u264 u265 u266 u267 u268 u269 u270 u271 u272 u273 u274 u275 : Value)
  (HE : Hid (EnvS SA SB N a b inn out i1 j1 w1 t t2 y O0)) (h4 : ra[0]? = some (.int .i64 (SA : Int))) (h5 : rb[0]? = some (.int .i64 (SB : Int))) (hbn : w.heap.size + 7 ≤ bx)
  (hD : ∀ s e i j, DT e i j (s + 1) → DT e i j s ∨ (e = eB SB ((t : Int), (t2 : Int), 0, O0, (y : Int)) s ∧ i = i1 ∧ j = j1))
  (ht : Tt w wi ra rb (inn.length + 1) (out.length + 1) N B ag) (hbox : wi.heap[bx]? = some (.cells #[.int .i64 (t : Int), .int .i64 (t2 : Int), .int .i64 0, .int .i64 O0, .int .i64 (y : Int)] 64 (0, 0))) (HV : Hid (InvP (prM a b SA SB) inn out true (SA * SB) B)) (HP : Hid (Pas inn out B0 ag B fun e i j => DT e i j 0)) (Q0 : Exit → Act → World → Prop)
  (hexit : ∀ (B : List Nat) (ag : Bool) (wr : World) (v32 v245 v246 v247 v248 v249 v250 v251 v252 v253 v254 v255 v256 v257 v258 v259 v260 v261 v262 v263 v264 v265 v266 v267 v268 v269 v270 v271 v272 v273 v274 v275 : Value), Tt w wr ra rb (inn.length + 1) (out.length + 1) N B ag → wr.heap[bx]? = some (.cells #[.int .i64 (t : Int), .int .i64 (t2 : Int), .int .i64 0, .int .i64 O0, .int .i64 (y : Int)] 64 (0, 0)) → InvP (prM a b SA SB) inn out true (SA * SB) B → Pas inn out B0 ag B (fun e i j => DT e i j SA) → Q0 (.exit 16) ⟨#[c0, c1, .slice ai inn.length ci, .slice ao out.length co, .pointer (some ⟨w.heap.size, 0, none⟩), .pointer (some ⟨w.heap.size + 1, 0, none⟩), c6, c7, c8, .pointer (some ⟨w.heap.size + 2, 0, none⟩), .pointer (some ⟨w.heap.size + 3, 0, none⟩), .pointer (some ⟨w.heap.size + 5, 0, none⟩), c12, .func (.func 35) #[] #[.pointer (some ⟨w.heap.size + 1, 0, none⟩), .pointer (some ⟨w.heap.size + 2, 0, none⟩), .pointer (some ⟨w.heap.size + 3, 0, none⟩)], .pointer (some ⟨w.heap.size + 6, 0, none⟩), .func (.func 36) #[] #[.pointer (some ⟨w.heap.size + 5, 0, none⟩), .pointer (some ⟨w.heap.size + 6, 0, none⟩)], c16, .int .i64 (i1 : Int), .int .i64 (j1 : Int), c19, c20, c21, c22, c23, c24, c25, c26, c27, c28, .pointer (some ⟨bx, 0, none⟩), .int .i64 (w1 : Int), .int .i64 (SA : Int), v32, c33, c34, c35, c36, c37, c38, c39, c40, c41, c42, c43, c44, c45, c46, c47, c48, c49, c50, c51, c52, c53, c54, c55, c56, c57, c58, c59, c60, c61, c62, c63, c64, c65, c66, c67, c68, c69, c70, c71, c72, c73, c74, c75, c76, c77, c78, c79, c80, c81, c82, c83, c84, c85, c86, c87, c88, c89, c90, c91, c92, c93, c94, c95, c96, c97, c98, c99, c100, c101, c102, c103, c104, c105, c106, c107, c108, c109, c110, c111, c112, c113, c114, c115, c116, c117, c118, c119, c120, c121, c122, c123, c124, c125, c126, c127, c128, c129, c130, c131, c132, c133, c134, c135, c136, c137, c138, c139, c140, c141, c142, c143, c144, c145, c146, c147, c148, c149, c150, c151, c152, c153, c154, c155, c156, c157, c158, c159, c160, c161, c162, c163, c164, c165, c166, c167, c168, c169, c170, c171, c172, c173, c174, c175, c176, c177, c178, c179, c180, c181, c182, c183, c184, c185, c186, c187, c188, c189, c190, c191, c192, c193, c194, c195, c196, c197, c198, c199, c200, c201, c202, c203, c204, c205, c206, c207, c208, c209, c210, c211, c212, c213, c214, c215, c216, c217, c218, c219, c220, c221, c222, c223, c224, c225, c226, c227, c228, c229, c230, c231, c232, c233, c234, c235, c236, c237, c238, c239, c240, c241, c242, c243, c244, v245, v246, v247, v248, v249, v250, v251, v252, v253, v254, v255, v256, v257, v258, v259, v260, v261, v262, v263, v264, v265, v266, v267, v268, v269, v270, v271, v272, v273, v274, v275, c276, c277, c278, c279, c280, c281, c282, c283, c284, c285, c286, c287, c288, c289, c290, c291, c292, c293, c294, c295, c296, c297, c298, c299, c300, c301, c302, c303, c304, c305, c306, c307, c308, c309, c310, c311, c312, c313, c314, c315, c316, c317, c318, c319, c320, c321, c322, c323, c324, c325, c326, c327, c328, c329, c330, c331, c332, c333], []⟩ wr) :
  Code.wp Tryd.prog (Code.loop bodyS) Q0 ⟨#[c0, c1, .slice ai inn.length ci, .slice ao out.length co, .pointer (some ⟨w.heap.size, 0, none⟩), .pointer (some ⟨w.heap.size + 1, 0, none⟩), c6, c7, c8, .pointer (some ⟨w.heap.size + 2, 0, none⟩), .pointer (some ⟨w.heap.size + 3, 0, none⟩), .pointer (some ⟨w.heap.size + 5, 0, none⟩), c12, .func (.func 35) #[] #[.pointer (some ⟨w.heap.size + 1, 0, none⟩), .pointer (some ⟨w.heap.size + 2, 0, none⟩), .pointer (some ⟨w.heap.size + 3, 0, none⟩)], .pointer (some ⟨w.heap.size + 6, 0, none⟩), .func (.func 36) #[] #[.pointer (some ⟨w.heap.size + 5, 0, none⟩), .pointer (some ⟨w.heap.size + 6, 0, none⟩)], c16, .int .i64 (i1 : Int), .int .i64 (j1 : Int), c19, c20, c21, c22, c23, c24, c25, c26, c27, c28, .pointer (some ⟨bx, 0, none⟩), .int .i64 (w1 : Int), .int .i64 0, u32, c33, c34, c35, c36, c37, c38, c39, c40, c41, c42, c43, c44, c45, c46, c47, c48, c49, c50, c51, c52, c53, c54, c55, c56, c57, c58, c59, c60, c61, c62, c63, c64, c65, c66, c67, c68, c69, c70, c71, c72, c73, c74, c75, c76, c77, c78, c79, c80, c81, c82, c83, c84, c85, c86, c87, c88, c89, c90, c91, c92, c93, c94, c95, c96, c97, c98, c99, c100, c101, c102, c103, c104, c105, c106, c107, c108, c109, c110, c111, c112, c113, c114, c115, c116, c117, c118, c119, c120, c121, c122, c123, c124, c125, c126, c127, c128, c129, c130, c131, c132, c133, c134, c135, c136, c137, c138, c139, c140, c141, c142, c143, c144, c145, c146, c147, c148, c149, c150, c151, c152, c153, c154, c155, c156, c157, c158, c159, c160, c161, c162, c163, c164, c165, c166, c167, c168, c169, c170, c171, c172, c173, c174, c175, c176, c177, c178, c179, c180, c181, c182, c183, c184, c185, c186, c187, c188, c189, c190, c191, c192, c193, c194, c195, c196, c197, c198, c199, c200, c201, c202, c203, c204, c205, c206, c207, c208, c209, c210, c211, c212, c213, c214, c215, c216, c217, c218, c219, c220, c221, c222, c223, c224, c225, c226, c227, c228, c229, c230, c231, c232, c233, c234, c235, c236, c237, c238, c239, c240, c241, c242, c243, c244, u245, u246, u247, u248, u249, u250, u251, u252, u253, u254, u255, u256, u257, u258, u259, u260, u261, u262, u263, u264, u265, u266, u267, u268, u269, u270, u271, u272, u273, u274, u275, c276, c277, c278, c279, c280, c281, c282, c283, c284, c285, c286, c287, c288, c289, c290, c291, c292, c293, c294, c295, c296, c297, c298, c299, c300, c301, c302, c303, c304, c305, c306, c307, c308, c309, c310, c311, c312, c313, c314, c315, c316, c317, c318, c319, c320, c321, c322, c323, c324, c325, c326, c327, c328, c329, c330, c331, c332, c333], []⟩ wi := by
 dsimp only at hexit ⊢
 conv => arg 2; arg 1; whnf
 have HX : Hid _ := hexit
 clear hexit
 go_loopw [31] (fun tv wr => ∃ (B : List Nat) (ag : Bool) (s1 : Nat), tv = .int .i64 (s1 : Int) ∧ s1 ≤ SA ∧ Tt w wr ra rb (inn.length + 1) (out.length + 1) N B ag ∧ wr.heap[bx]? = some (.cells #[.int .i64 (t : Int), .int .i64 (t2 : Int), .int .i64 0, .int .i64 O0, .int .i64 (y : Int)] 64 (0, 0)) ∧ InvP (prM a b SA SB) inn out true (SA * SB) B ∧ Pas inn out B0 ag B (fun e i j => DT e i j s1)) (fun tv _ => SA - (intOf tv).toNat)
 case atStart => exact ⟨B, ag, 0, rfl, Nat.zero_le _, ht, hbox, HV.out, HP.out⟩
 case round =>
  clear ht hbox HP HV
  obtain ⟨B, ag, s1, rfl, hsl, htt, hbox, hinv, hpas⟩ := hrel
  have HTT : Hid (Tt w wr ra rb (inn.length + 1) (out.length + 1) N B ag) := htt
  have HV : Hid (InvP (prM a b SA SB) inn out true (SA * SB) B) := hinv
  have HP : Hid (Pas inn out B0 ag B fun e i j => DT e i j s1) := hpas
  have u4 : wr.cell? ⟨w.heap.size, 0, none⟩ = some (.int .i64 (SA : Int)) := (cell_of_row _ _ 0 _ _ _ htt.x4).trans h4
  have u5 : wr.cell? ⟨w.heap.size + 1, 0, none⟩ = some (.int .i64 (SB : Int)) := (cell_of_row _ _ 0 _ _ _ htt.x5).trans h5
  have u9 := cell_of_row _ _ 0 _ _ _ htt.x9
  have u10 := cell_of_row _ _ 0 _ _ _ htt.x10
  have u11 := cell_of_row _ _ 0 _ _ _ htt.x11
  clear htt hinv hpas
  by_cases hsA : s1 < SA
  ·have hsA' : (s1 : Int) < (SA : Int) := by omega
   have hA40 : SA ≤ 40 := HE.out.hA
   have HDN : Hid _ := hD s1
   have HEM : Hid _ := HE.out.mem s1 hsA
   have HMV : Hid _ := HE.out.mv s1
   have HBW : Hid (y ≤ 2000000) := by show _ ≤ _; have := HE.out.hy; omega
   have HBJ : Hid (j1 ≤ 20) := by show _ ≤ _; have := HE.out.hj; have := HE.out.hk; omega
   have HBD : Hid (SB ≤ 40 ∧ s1 ≤ 40 ∧ t ≤ 40 ∧ inn.length + 1 ≤ 20 ∧ i1 ≤ 20 ∧ out.length + 1 ≤ 20 ∧ s1 ≤ 40 ∧ t2 ≤ 40 ∧ i1 ≤ 20 ∧ w1 ≤ 20) := by
    show _ ∧ _
    have := HE.out.hB; have := HE.out.ht; have := HE.out.ht2; have := HE.out.hn; have := HE.out.hi; have := HE.out.hk; have := HE.out.hw
    omega
   have HBL : Hid (s1 * SB + t < SA * SB ∧ s1 * SB + t2 < SA * SB ∧ i1 < inn.length + 1 ∧ j1 < out.length + 1 ∧ N ≤ 129600) := ⟨pair_lt hsA HE.out.ht, pair_lt hsA HE.out.ht2, HE.out.hi, HE.out.hj, N_small HE.out.hA HE.out.hB (show inn.length + 1 ≤ 9 by have := HE.out.hn; omega) (show out.length + 1 ≤ 9 by have := HE.out.hk; omega) HE.out.hN⟩
   have hq1 := idx_ok HE.out.hN hsA HE.out.ht HE.out.hi HE.out.hj
   have hq2 := idx_ok HE.out.hN hsA HE.out.ht2 HE.out.hi HE.out.hw
   have k9 := cell_of_row _ _ 0 _ _ _ hbox
   have k0 := cell_of_row _ _ 1 _ _ _ hbox
   have k1 := cell_of_row _ _ 4 _ _ _ hbox
   have h6bx : bx ≠ w.heap.size + 6 := by omega
   have hGbx : bx ≠ w.heap.size + 4 := by omega
   obtain ⟨p, hp⟩ : ∃ p, val B (idx (inn.length + 1) (out.length + 1) (s1 * SB + t) i1 j1) = p := ⟨_, rfl⟩
   have HPV : Hid (val B (idx (inn.length + 1) (out.length + 1) (s1 * SB + t) i1 j1) = p) := hp
   have hc1 := HTT.out.cell hq1
   rw [hp] at hc1
   have KA := fun d => at_any SB s1 t (inn.length + 1) i1 (out.length + 1) j1 (w.heap.size + 1) (w.heap.size + 2) (w.heap.size + 3) (wr.drewN d) u5 u9 u10 HBD.out.1 HBD.out.2.1 HBD.out.2.2.1 HBD.out.2.2.2.1 HBD.out.2.2.2.2.1 HBD.out.2.2.2.2.2.1 HBJ.out
   have hq1' : ((idx (inn.length + 1) (out.length + 1) (s1 * SB + t) i1 j1 : Nat) : Int) < (N : Int) := by omega
   generalize hqg : idx (inn.length + 1) (out.length + 1) (s1 * SB + t) i1 j1 = q1 at *
   clear hp
   go_upto_region 60 with fail
   go_quiet (first | (go_at_call 35; exact Calls.quiet_of_same (KA _)))
   by_cases hpd : p < dear
   ·have hpd' := lt_dearI hpd
    have HPD : Hid (val B (idx (inn.length + 1) (cols out true) (s1 * SB + t) i1 j1) < dear ∧ val B (idx (inn.length + 1) (cols out true) (s1 * SB + t) i1 j1) = p) := by show _ ∧ _; rw [show cols out true = out.length + 1 from rfl, hqg, HPV.out]; exact ⟨hpd, rfl⟩
    obtain ⟨z, hz, hwp⟩ := wrap_p hpd (show y ≤ 2000000 by have := HBW.out; omega)
    have HZ : Hid (z = p + y) := hz
    clear hz
    have HTD : Hid (Tt w (wr.drewN nq) ra rb (inn.length + 1) (out.length + 1) N B ag) := HTT.out.drewN nq
    have k0 : (wr.drewN nq).cell? ⟨bx, 1, none⟩ = _ := k0
    have k1 : (wr.drewN nq).cell? ⟨bx, 4, none⟩ = _ := k1
    have u5 : (wr.drewN nq).cell? ⟨w.heap.size + 1, 0, none⟩ = _ := u5
    have u9 : (wr.drewN nq).cell? ⟨w.heap.size + 2, 0, none⟩ = _ := u9
    have u10 : (wr.drewN nq).cell? ⟨w.heap.size + 3, 0, none⟩ = _ := u10
    have u11 : (wr.drewN nq).cell? ⟨w.heap.size + 5, 0, none⟩ = _ := u11
    have hbox : (wr.drewN nq).heap[bx]? = _ := hbox
    clear hqg HPV HTT KA hc1
    generalize hVd : wr.drewN nq = Wd at *
    clear hVd
    go_upto_region 62 with fail
    refine wp_region_noPanic ?_
    refine wp_region_held_drew (S := fun W => W.cell? ⟨bx, 1, none⟩ = some (.int .i64 (t2 : Int)) ∧ W.cell? ⟨bx, 4, none⟩ = some (.int .i64 (y : Int))) (by kernel_rfl) (by exact ⟨k0, k1⟩) (fun hHeld => ?_)
    have HT0 : Hid (Tt w Wd.drew ra rb (inn.length + 1) (out.length + 1) N B ag) := HTD.out.drew
    have gk0 : Wd.drew.cell? ⟨bx, 1, none⟩ = _ := k0
    have gk1 : Wd.drew.cell? ⟨bx, 4, none⟩ = _ := k1
    have g5 : Wd.drew.cell? ⟨w.heap.size + 1, 0, none⟩ = _ := u5
    have g9 : Wd.drew.cell? ⟨w.heap.size + 2, 0, none⟩ = _ := u9
    have g10 : Wd.drew.cell? ⟨w.heap.size + 3, 0, none⟩ = _ := u10
    have g11 : Wd.drew.cell? ⟨w.heap.size + 5, 0, none⟩ = _ := u11
    have gboxbx : Wd.drew.heap[bx]? = _ := hbox
    generalize hV : Wd.drew = V0 at *
    clear hV
    refine tk (v := ?_) 0 { dst := some 263, op := .move (.tmp 15), type := 69, pos := "machine.go:185", after := #[], guard := none } (by rfl) ?_ ?_
    case refine_2 => intro w hSw; (try dsimp only at hSw); obtain ⟨zk0, zk1⟩ := hSw; go_simp; (try with_reducible rfl)
    simp only [Act.put, zS0, zS1, zS2]
    refine tk (v := ?_) 1 { dst := some 264, op := .move (.tmp 13), type := 68, pos := "machine.go:185", after := #[], guard := none } (by rfl) ?_ ?_
    case refine_2 => intro w hSw; (try dsimp only at hSw); obtain ⟨zk0, zk1⟩ := hSw; go_simp; (try with_reducible rfl)
    simp only [Act.put, zS0, zS1, zS2]
    refine tk (v := ?_) 2 { dst := some 265, op := .move (.tmp 31), type := 3, pos := "machine.go:185", after := #[], guard := none } (by rfl) ?_ ?_
    case refine_2 => intro w hSw; (try dsimp only at hSw); obtain ⟨zk0, zk1⟩ := hSw; go_simp; (try with_reducible rfl)
    simp only [Act.put, zS0, zS1, zS2]
    refine tk (v := ?_) 3 { dst := some 266, op := .fieldAddr 64 (.tmp 29) 1, type := 0, pos := "machine.go:185", after := #[], guard := none } (by rfl) ?_ ?_
    case refine_2 => intro w hSw; (try dsimp only at hSw); obtain ⟨zk0, zk1⟩ := hSw; go_simp; (try with_reducible rfl)
    simp only [Act.put, zS0, zS1, zS2]
    refine tk (v := ?_) 4 { dst := some 267, op := .load 3 (.tmp 266), type := 3, pos := "machine.go:185", after := #[⟨3, .data⟩], guard := none } (by rfl) ?_ ?_
    case refine_2 => intro w hSw; (try dsimp only at hSw); obtain ⟨zk0, zk1⟩ := hSw; go_simp; (try with_reducible rfl)
    simp only [Act.put, zS0, zS1, zS2]
    refine tk (v := ?_) 5 { dst := some 268, op := .move (.tmp 17), type := 3, pos := "machine.go:185", after := #[], guard := none } (by rfl) ?_ ?_
    case refine_2 => intro w hSw; (try dsimp only at hSw); obtain ⟨zk0, zk1⟩ := hSw; go_simp; (try with_reducible rfl)
    simp only [Act.put, zS0, zS1, zS2]
    refine tk (v := ?_) 6 { dst := some 269, op := .move (.tmp 30), type := 3, pos := "machine.go:185", after := #[], guard := none } (by rfl) ?_ ?_
    case refine_2 => intro w hSw; (try dsimp only at hSw); obtain ⟨zk0, zk1⟩ := hSw; go_simp; (try with_reducible rfl)
    simp only [Act.put, zS0, zS1, zS2]
    refine tk (v := ?_) 8 { dst := some 271, op := .move (.tmp 32), type := 3, pos := "machine.go:185", after := #[], guard := none } (by rfl) ?_ ?_
    case refine_2 => intro w hSw; (try dsimp only at hSw); obtain ⟨zk0, zk1⟩ := hSw; go_simp; (try with_reducible rfl)
    simp only [Act.put, zS0, zS1, zS2]
    refine tk (v := ?_) 9 { dst := some 272, op := .fieldAddr 64 (.tmp 29) 4, type := 0, pos := "machine.go:185", after := #[], guard := none } (by rfl) ?_ ?_
    case refine_2 => intro w hSw; (try dsimp only at hSw); obtain ⟨zk0, zk1⟩ := hSw; go_simp; (try with_reducible rfl)
    simp only [Act.put, zS0, zS1, zS2]
    refine tk (v := ?_) 10 { dst := some 273, op := .load 3 (.tmp 272), type := 3, pos := "machine.go:185", after := #[⟨9, .data⟩], guard := none } (by rfl) ?_ ?_
    case refine_2 => intro w hSw; (try dsimp only at hSw); obtain ⟨zk0, zk1⟩ := hSw; go_simp; (try with_reducible rfl)
    simp only [Act.put, zS0, zS1, zS2]
    refine tk (v := ?_) 11 { dst := some 274, op := .binOp .add 3 (.tmp 271) (.tmp 273) 3, type := 3, pos := "machine.go:185", after := #[⟨8, .data⟩, ⟨10, .data⟩], guard := none } (by rfl) ?_ ?_
    case refine_2 => intro w hSw; (try dsimp only at hSw); obtain ⟨zk0, zk1⟩ := hSw; go_simp; (try with_reducible rfl)
    simp only [Act.put, zS0, zS1, zS2]
    refine wpAnyH_ready (rs := [7]) (by kernel_rfl) (by simp) ?_
    refine (AllReadyH.cons (o := { dst := some 270, op := .call { callee := .value (.tmp 264), args := #[.tmp 265, .tmp 267, .tmp 268, .tmp 269], argTypes := #[3, 3, 3, 3] }, type := 3, pos := "machine.go:185", after := #[⟨1, .data⟩, ⟨2, .data⟩, ⟨4, .data⟩, ⟨5, .data⟩, ⟨6, .data⟩], guard := none }) rfl (fun K hK => ?_) AllReadyH.nil)
    go_simp
    have KA := at_any SB s1 t2 (inn.length + 1) i1 (out.length + 1) w1 (w.heap.size + 1) (w.heap.size + 2) (w.heap.size + 3) V0 g5 g9 g10 HBD.out.1 HBD.out.2.2.2.2.2.2.1 HBD.out.2.2.2.2.2.2.2.1 HBD.out.2.2.2.1 HBD.out.2.2.2.2.2.2.2.2.1 HBD.out.2.2.2.2.2.1 HBD.out.2.2.2.2.2.2.2.2.2
    (with_reducible refine KA.mono ?_)
    clear KA
    rintro e2 w2 ⟨rfl, hw2⟩
    subst w2
    dsimp only
    refine hK.out _ _ ?_ (fun hHeld => ?_)
    ·exact ⟨gk0, gk1⟩
    clear hK K
    try simp only [Act.put, zS0, zS1, zS2]
    refine wpAnyH_ready (rs := [12]) (by kernel_rfl) (by simp) ?_
    refine (AllReadyH.cons (o := { dst := some 275, op := .call { callee := .value (.tmp 263), args := #[.tmp 270, .tmp 274], argTypes := #[3, 3] }, type := 0, pos := "machine.go:185", after := #[⟨0, .data⟩, ⟨7, .data⟩, ⟨11, .data⟩, ⟨7, .chain⟩], guard := none }) rfl (fun K hK => ?_) AllReadyH.nil)
    go_simp
    have KL := lower_any (idx (inn.length + 1) (out.length + 1) (s1 * SB + t2) i1 w1) N (w.heap.size + 4) (w.heap.size + 5) (w.heap.size + 6) z (val B (idx (inn.length + 1) (out.length + 1) (s1 * SB + t2) i1 w1)) V0 g11 hq2 (HT0.out.cell hq2) (HT0.out.tab.frozenAt _) ⟨_, HT0.out.x14⟩ (by omega)
    (with_reducible refine KL.mono ?_)
    clear KL
    rintro e3 w3 ⟨rfl, hw3⟩
    dsimp only
    refine hK.out _ _ ?_ (fun hHeld => ?_)
    ·(rw [hw3]; split; exact ⟨(cell_other2 _ _ _ _ _ _ hGbx h6bx).trans gk0, (cell_other2 _ _ _ _ _ _ hGbx h6bx).trans gk1⟩; exact ⟨gk0, gk1⟩)
    clear hK K
    try simp only [Act.put, zS0, zS1, zS2]
    refine wpAnyH_done (by kernel_rfl) ?_ _
    refine NoPanic.normal ?_
    have hz2 := HZ.out
    subst hz2
    by_cases hlow : p + y < val B (idx (inn.length + 1) (out.length + 1) (s1 * SB + t2) i1 w1)
    ·have HLW : Hid (val B (idx (inn.length + 1) (cols out true) (s1 * SB + t) i1 j1) + y < val B (idx (inn.length + 1) (cols out true) (s1 * SB + t2) i1 w1)) := by show _ < _; rw [HPD.out.2]; exact hlow
     rw [if_pos hlow] at hw3
     have HT3 : Hid (Tt w w3 ra rb (inn.length + 1) (out.length + 1) N (B.set (idx (inn.length + 1) (out.length + 1) (s1 * SB + t2) i1 w1) (p + y)) true) := by rw [hw3]; exact HT0.out.low _ _
     have hbxbx := (congrArg (fun W : World => W.heap[bx]?) hw3).trans (((heap_setCell_other _ _ _ _ h6bx).trans (heap_setCell_other _ _ _ _ hGbx)).trans gboxbx)
     have HL : Hid _ := look_took (fun e i j => DT e i j (s1 + 1)) HEM.out (eb_1 SB t t2 y s1 O0) (eb_2 SB t t2 y s1 O0) (eb_5 SB t t2 y s1 O0) HBW.out HBL.out.1 HBL.out.2.1 HBL.out.2.2.1 (show j1 < out.length + 1 from HBL.out.2.2.2.1) HMV.out HV.out HP.out (by rw [HTD.out.len]; have := HBL.out.2.2.2.2; omega) HPD.out.1 HLW.out
     have HL2 : Hid (InvP (prM a b SA SB) inn out true (SA * SB) (B.set (idx (inn.length + 1) (out.length + 1) (s1 * SB + t2) i1 w1) (p + y)) ∧ Pas inn out B0 true (B.set (idx (inn.length + 1) (out.length + 1) (s1 * SB + t2) i1 w1) (p + y)) fun e i j => DT e i j (s1 + 1)) := by have := HL.out; rw [HPD.out.2] at this; exact this
     clear hw3
     go_wp2
     go_roundw
     case rel => exact ⟨_, true, s1 + 1, by go_num, hsA, HT3.out, hbxbx, HL2.out.1, HL2.out.2⟩
     case measure => simp [intOf]; omega
    ·have HLW : Hid (¬ val B (idx (inn.length + 1) (cols out true) (s1 * SB + t) i1 j1) + y < val B (idx (inn.length + 1) (cols out true) (s1 * SB + t2) i1 w1)) := by show ¬ _ < _; rw [HPD.out.2]; exact hlow
     rw [if_neg hlow] at hw3
     subst hw3
     have HL : Hid (Pas inn out B0 ag B fun e i j => DT e i j (s1 + 1)) := look_kept (eb_1 SB t t2 y s1 O0) (eb_2 SB t t2 y s1 O0) (eb_5 SB t t2 y s1 O0) HMV.out HP.out HDN.out HLW.out
     go_wp2
     go_roundw
     case rel => exact ⟨B, ag, s1 + 1, by go_num, hsA, HT0.out, gboxbx, HV.out, HL.out⟩
     case measure => simp [intOf]; omega
   ·have hpd' := ge_dearI hpd
    have HPD : Hid (val B (idx (inn.length + 1) (cols out true) (s1 * SB + t) i1 j1) = dear) := by show _ = _; rw [show cols out true = out.length + 1 from rfl, hqg, HPV.out]; have := HV.out.top q1; rw [HPV.out] at this; omega
    have HL : Hid (Pas inn out B0 ag B fun e i j => DT e i j (s1 + 1)) := look_dear (eb_1 SB t t2 y s1 O0) HP.out HDN.out HPD.out
    clear hqg HPV
    go_wp2
    go_roundw
    case rel => exact ⟨B, ag, s1 + 1, by go_num, hsA, (HTT.out.drewN nq), hbox, HV.out, HL.out⟩
    case measure => simp [intOf]; omega
  ·have hsA' : ¬ (s1 : Int) < (SA : Int) := by omega
   obtain rfl : s1 = SA := by omega
   go_wp2
   exact HX.out _ _ _ _ _ _ _ _ _ _ _ _ _ _ _ _ _ _ _ _ _ _ _ _ _ _ _ _ _ _ _ _ _ _ _ HTT.out hbox HV.out HP.out
end Go.Proofs.YtfjocafepigijaaDoor.Tc
