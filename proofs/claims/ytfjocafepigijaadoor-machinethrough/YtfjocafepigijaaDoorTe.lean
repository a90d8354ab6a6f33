/- The document's ThroughCost: a round over the states of the second machine. Conditions: numbers are small. -/
import Derived.Test.YtfjocafepigijaaDoorSkM
import Derived.Test.YtfjocafepigijaaDoorTdM
import Derived.Deep.LoopGhost
import Derived.Deep.QuietTactic
import Derived.BigQuiet
import Derived.Deep.RegionHeld
import Derived.Deep.CutRange
import Derived.Deep.RegionHeld3
namespace Go.Proofs.YtfjocafepigijaaDoor.Tc
open Go.RowKit Mv Wk Bw Th CR

noncomputable def bodyT : Code := ((Tryd.f16.body.map loops).getD []).getD 5 .skip
/-- what a round knows that the walk need not see -/
structure EnvT (SA SB N : Nat) (a b : M) (inn out : List Int) (i1 j1 r1 s s2 x : Nat) (I0 : Int) : Prop where
 hA : SA ≤ 40
 hB : SB ≤ 40
 hn : inn.length ≤ 8
 hk : out.length ≤ 8
 hi : i1 < inn.length + 1
 hj : j1 < out.length + 1
 hr : r1 < inn.length + 1
 hs : s < SA
 hs2 : s2 < SA
 hx : x ≤ 1000000
 hN : N = SA * SB * (inn.length + 1) * (out.length + 1)
 mem : ∀ t, t < SB → eA SB ((s : Int), (s2 : Int), I0, 0, (x : Int)) t ∈ (prM a b SA SB).arcs
 mv : ∀ t, Wk.Move inn out true (eA SB ((s : Int), (s2 : Int), I0, 0, (x : Int)) t) i1 j1 r1 j1
theorem idx_ok {SA SB N n k s t i j : Nat} (hN : N = SA * SB * n * k) (hs : s < SA) (ht : t < SB) (hi : i < n) (hj : j < k) : idx n k (s * SB + t) i j < N := by
 rw [hN]
 refine idx_lt ?_ hi hj
 calc s * SB + t < s * SB + SB := by omega
  _ = (s + 1) * SB := by rw [Nat.add_mul, Nat.one_mul]
  _ ≤ SA * SB := Nat.mul_le_mul_right _ hs
theorem pair_lt {SA SB s t : Nat} (hs : s < SA) (ht : t < SB) : s * SB + t < SA * SB := by
 calc s * SB + t < s * SB + SB := by omega
  _ = (s + 1) * SB := by rw [Nat.add_mul, Nat.one_mul]
  _ ≤ SA * SB := Nat.mul_le_mul_right _ hs
theorem N_small {SA SB N n k : Nat} (hA : SA ≤ 40) (hB : SB ≤ 40) (hn : n ≤ 9) (hk : k ≤ 9) (hN : N = SA * SB * n * k) : N ≤ 129600 := by
 rw [hN]
 exact Nat.le_trans (Nat.mul_le_mul (Nat.mul_le_mul (Nat.mul_le_mul hA hB) hn) hk) (by decide)
theorem wrap_p {p x : Nat} (hp : p < dear) (hx : x ≤ 2000000) : ∃ z : Nat, z = p + x ∧ IntKind.i64.wrap ((p : Int) + (x : Int)) = (z : Int) := by
 refine ⟨p + x, rfl, ?_⟩
 unfold dear at hp
 rw [IntKind.wrap_i64]
 omega
theorem cell_other2 (w : World) (g1 q1 : Nat) (u1 : Value) (g2 : Nat) (u2 : Value) {b q : Nat} (h1 : b ≠ g1) (h2 : b ≠ g2) : ((w.setCell ⟨g1, q1, none⟩ u1).setCell ⟨g2, 0, none⟩ u2).cell? ⟨b, q, none⟩ = w.cell? ⟨b, q, none⟩ := World.cell?_of_block ((heap_setCell_other _ _ _ _ h2).trans (heap_setCell_other _ _ _ _ h1))
theorem ea_1 (SB s s2 x t : Nat) (I0 : Int) : (eA SB ((s : Int), (s2 : Int), I0, 0, (x : Int)) t).1 = ((s * SB + t : Nat) : Int) := by simp [eA]
theorem ea_2 (SB s s2 x t : Nat) (I0 : Int) : (eA SB ((s : Int), (s2 : Int), I0, 0, (x : Int)) t).2.1 = ((s2 * SB + t : Nat) : Int) := by simp [eA]
theorem ea_5 (SB s s2 x t : Nat) (I0 : Int) : (eA SB ((s : Int), (s2 : Int), I0, 0, (x : Int)) t).2.2.2.2 = (x : Int) := rfl
theorem lt_dearI {p : Nat} (h : p < dear) : (p : Int) < 1152921504606846976 := by unfold dear at h; omega
theorem ge_dearI {p : Nat} (h : ¬ p < dear) : ¬ (p : Int) < 1152921504606846976 := by unfold dear at h; omega
set_option maxHeartbeats 8000000 in
set_option maxRecDepth 1000000 in
theorem loopT (SA SB N : Nat) (a b : M) (inn out : List Int) (ai ao : Option Addr) (ci co : Nat) (ra rb : Array Value) (w wi : World) (B0 B : List Nat) (ag : Bool) (i1 j1 r1 s s2 x bx : Nat) (I0 : Int) (DT : A5 → Nat → Nat → Nat → Prop) (c0 c1 c6 c7 c8 c12 c16 c19 c24 c25 c26 c27 c28 c29 c30 c31 c32 c33 c34 c35 c36 c37 c38 c39 c40 c41 c42 c43 c44 c45 c46 c47 c48 c49 c50 c51 c52 c53 c54 c55 c56 c57 c58 c59 c60 c61 c62 c63 c64 c65 c66 c67 c68 c69 c70 c71 c72 c73 c74 c75 c76 c77 c78 c79 c80 c81 c82 c83 c84 c85 c86 c87 c88 c89 c90 c91 c92 c93 c94 c95 c96 c97 c98 c99 c100 c101 c102 c103 c104 c105 c106 c107 c108 c109 c110 c111 c112 c113 c145 c146 c147 c148 c149 c150 c151 c152 c153 c154 c155 c156 c157 c158 c159 c160 c161 c162 c163 c164 c165 c166 c167 c168 c169 c170 c171 c172 c173 c174 c175 c176 c177 c178 c179 c180 c181 c182 c183 c184 c185 c186 c187 c188 c189 c190 c191 c192 c193 c194 c195 c196 c197 c198 c199 c200 c201 c202 c203 c204 c205 c206 c207 c208 c209 c210 c211 c212 c213 c214 c215 c216 c217 c218 c219 c220 c221 c222 c223 c224 c225 c226 c227 c228 c229 c230 c231 c232 c233 c234 c235 c236 c237 c238 c239 c240 c241 c242 c243 c244 c245 c246 c247 c248 c249 c250 c251 c252 c253 c254 c255 c256 c257 c258 c259 c260 c261 c262 c263 c264 c265 c266 c267 c268 c269 c270 c271 c272 c273 c274 c275 c276 c277 c278 c279 c280 c281 c282 c283 c284 c285 c286 c287 c288 c289 c290 c291 c292 c293 c294 c295 c296 c297 c298 c299 c300 c301 c302 c303 c304 c305 c306 c307 c308 c309 c310 c311 c312 c313 c314 c315 c316 c317 c318 c319 c320 c321 c322 c323 c324 c325 c326 c327 c328 c329 c330 c331 c332 c333 : Value) (u23 u114 u115 u116 u117 u118 u119 u120 u121 u122 u123 u124 u125 u126 u127 u128 u129 u130 u131 u132 u133 u134 u135 u136 u137 u138 u139 u140 u141 u142 u143 u144 : Value)
  (HE : Hid (EnvT SA SB N a b inn out i1 j1 r1 s s2 x I0)) (h5 : rb[0]? = some (.int .i64 (SB : Int))) (hbn : w.heap.size + 7 ≤ bx)
  (hD : ∀ t e i j, DT e i j (t + 1) → DT e i j t ∨ (e = eA SB ((s : Int), (s2 : Int), I0, 0, (x : Int)) t ∧ i = i1 ∧ j = j1))
  (ht : Tt w wi ra rb (inn.length + 1) (out.length + 1) N B ag) (hbox : wi.heap[bx]? = some (.cells #[.int .i64 (s : Int), .int .i64 (s2 : Int), .int .i64 I0, .int .i64 0, .int .i64 (x : Int)] 64 (0, 0))) (HV : Hid (InvP (prM a b SA SB) inn out true (SA * SB) B)) (HP : Hid (Pas inn out B0 ag B fun e i j => DT e i j 0)) (Q0 : Exit → Act → World → Prop)
  (hexit : ∀ (B : List Nat) (ag : Bool) (wr : World) (v23 v114 v115 v116 v117 v118 v119 v120 v121 v122 v123 v124 v125 v126 v127 v128 v129 v130 v131 v132 v133 v134 v135 v136 v137 v138 v139 v140 v141 v142 v143 v144 : Value), Tt w wr ra rb (inn.length + 1) (out.length + 1) N B ag → wr.heap[bx]? = some (.cells #[.int .i64 (s : Int), .int .i64 (s2 : Int), .int .i64 I0, .int .i64 0, .int .i64 (x : Int)] 64 (0, 0)) → InvP (prM a b SA SB) inn out true (SA * SB) B → Pas inn out B0 ag B (fun e i j => DT e i j SB) → Q0 (.exit 10) ⟨#[c0, c1, .slice ai inn.length ci, .slice ao out.length co, .pointer (some ⟨w.heap.size, 0, none⟩), .pointer (some ⟨w.heap.size + 1, 0, none⟩), c6, c7, c8, .pointer (some ⟨w.heap.size + 2, 0, none⟩), .pointer (some ⟨w.heap.size + 3, 0, none⟩), .pointer (some ⟨w.heap.size + 5, 0, none⟩), c12, .func (.func 35) #[] #[.pointer (some ⟨w.heap.size + 1, 0, none⟩), .pointer (some ⟨w.heap.size + 2, 0, none⟩), .pointer (some ⟨w.heap.size + 3, 0, none⟩)], .pointer (some ⟨w.heap.size + 6, 0, none⟩), .func (.func 36) #[] #[.pointer (some ⟨w.heap.size + 5, 0, none⟩), .pointer (some ⟨w.heap.size + 6, 0, none⟩)], c16, .int .i64 (i1 : Int), .int .i64 (j1 : Int), c19, .pointer (some ⟨bx, 0, none⟩), .int .i64 (r1 : Int), .int .i64 (SB : Int), v23, c24, c25, c26, c27, c28, c29, c30, c31, c32, c33, c34, c35, c36, c37, c38, c39, c40, c41, c42, c43, c44, c45, c46, c47, c48, c49, c50, c51, c52, c53, c54, c55, c56, c57, c58, c59, c60, c61, c62, c63, c64, c65, c66, c67, c68, c69, c70, c71, c72, c73, c74, c75, c76, c77, c78, c79, c80, c81, c82, c83, c84, c85, c86, c87, c88, c89, c90, c91, c92, c93, c94, c95, c96, c97, c98, c99, c100, c101, c102, c103, c104, c105, c106, c107, c108, c109, c110, c111, c112, c113, v114, v115, v116, v117, v118, v119, v120, v121, v122, v123, v124, v125, v126, v127, v128, v129, v130, v131, v132, v133, v134, v135, v136, v137, v138, v139, v140, v141, v142, v143, v144, c145, c146, c147, c148, c149, c150, c151, c152, c153, c154, c155, c156, c157, c158, c159, c160, c161, c162, c163, c164, c165, c166, c167, c168, c169, c170, c171, c172, c173, c174, c175, c176, c177, c178, c179, c180, c181, c182, c183, c184, c185, c186, c187, c188, c189, c190, c191, c192, c193, c194, c195, c196, c197, c198, c199, c200, c201, c202, c203, c204, c205, c206, c207, c208, c209, c210, c211, c212, c213, c214, c215, c216, c217, c218, c219, c220, c221, c222, c223, c224, c225, c226, c227, c228, c229, c230, c231, c232, c233, c234, c235, c236, c237, c238, c239, c240, c241, c242, c243, c244, c245, c246, c247, c248, c249, c250, c251, c252, c253, c254, c255, c256, c257, c258, c259, c260, c261, c262, c263, c264, c265, c266, c267, c268, c269, c270, c271, c272, c273, c274, c275, c276, c277, c278, c279, c280, c281, c282, c283, c284, c285, c286, c287, c288, c289, c290, c291, c292, c293, c294, c295, c296, c297, c298, c299, c300, c301, c302, c303, c304, c305, c306, c307, c308, c309, c310, c311, c312, c313, c314, c315, c316, c317, c318, c319, c320, c321, c322, c323, c324, c325, c326, c327, c328, c329, c330, c331, c332, c333], []⟩ wr) :
  Code.wp Tryd.prog (Code.loop bodyT) Q0 ⟨#[c0, c1, .slice ai inn.length ci, .slice ao out.length co, .pointer (some ⟨w.heap.size, 0, none⟩), .pointer (some ⟨w.heap.size + 1, 0, none⟩), c6, c7, c8, .pointer (some ⟨w.heap.size + 2, 0, none⟩), .pointer (some ⟨w.heap.size + 3, 0, none⟩), .pointer (some ⟨w.heap.size + 5, 0, none⟩), c12, .func (.func 35) #[] #[.pointer (some ⟨w.heap.size + 1, 0, none⟩), .pointer (some ⟨w.heap.size + 2, 0, none⟩), .pointer (some ⟨w.heap.size + 3, 0, none⟩)], .pointer (some ⟨w.heap.size + 6, 0, none⟩), .func (.func 36) #[] #[.pointer (some ⟨w.heap.size + 5, 0, none⟩), .pointer (some ⟨w.heap.size + 6, 0, none⟩)], c16, .int .i64 (i1 : Int), .int .i64 (j1 : Int), c19, .pointer (some ⟨bx, 0, none⟩), .int .i64 (r1 : Int), .int .i64 0, u23, c24, c25, c26, c27, c28, c29, c30, c31, c32, c33, c34, c35, c36, c37, c38, c39, c40, c41, c42, c43, c44, c45, c46, c47, c48, c49, c50, c51, c52, c53, c54, c55, c56, c57, c58, c59, c60, c61, c62, c63, c64, c65, c66, c67, c68, c69, c70, c71, c72, c73, c74, c75, c76, c77, c78, c79, c80, c81, c82, c83, c84, c85, c86, c87, c88, c89, c90, c91, c92, c93, c94, c95, c96, c97, c98, c99, c100, c101, c102, c103, c104, c105, c106, c107, c108, c109, c110, c111, c112, c113, u114, u115, u116, u117, u118, u119, u120, u121, u122, u123, u124, u125, u126, u127, u128, u129, u130, u131, u132, u133, u134, u135, u136, u137, u138, u139, u140, u141, u142, u143, u144, c145, c146, c147, c148, c149, c150, c151, c152, c153, c154, c155, c156, c157, c158, c159, c160, c161, c162, c163, c164, c165, c166, c167, c168, c169, c170, c171, c172, c173, c174, c175, c176, c177, c178, c179, c180, c181, c182, c183, c184, c185, c186, c187, c188, c189, c190, c191, c192, c193, c194, c195, c196, c197, c198, c199, c200, c201, c202, c203, c204, c205, c206, c207, c208, c209, c210, c211, c212, c213, c214, c215, c216, c217, c218, c219, c220, c221, c222, c223, c224, c225, c226, c227, c228, c229, c230, c231, c232, c233, c234, c235, c236, c237, c238, c239, c240, c241, c242, c243, c244, c245, c246, c247, c248, c249, c250, c251, c252, c253, c254, c255, c256, c257, c258, c259, c260, c261, c262, c263, c264, c265, c266, c267, c268, c269, c270, c271, c272, c273, c274, c275, c276, c277, c278, c279, c280, c281, c282, c283, c284, c285, c286, c287, c288, c289, c290, c291, c292, c293, c294, c295, c296, c297, c298, c299, c300, c301, c302, c303, c304, c305, c306, c307, c308, c309, c310, c311, c312, c313, c314, c315, c316, c317, c318, c319, c320, c321, c322, c323, c324, c325, c326, c327, c328, c329, c330, c331, c332, c333], []⟩ wi := by
 dsimp only at hexit ⊢
 conv => arg 2; arg 1; whnf
 have HX : Hid _ := hexit
 clear hexit
 go_loopw [22] (fun tv wr => ∃ (B : List Nat) (ag : Bool) (t1 : Nat), tv = .int .i64 (t1 : Int) ∧ t1 ≤ SB ∧ Tt w wr ra rb (inn.length + 1) (out.length + 1) N B ag ∧ wr.heap[bx]? = some (.cells #[.int .i64 (s : Int), .int .i64 (s2 : Int), .int .i64 I0, .int .i64 0, .int .i64 (x : Int)] 64 (0, 0)) ∧ InvP (prM a b SA SB) inn out true (SA * SB) B ∧ Pas inn out B0 ag B (fun e i j => DT e i j t1)) (fun tv _ => SB - (intOf tv).toNat)
 case atStart => exact ⟨B, ag, 0, rfl, Nat.zero_le _, ht, hbox, HV.out, HP.out⟩
 case round =>
  clear ht hbox HP HV
  obtain ⟨B, ag, t1, rfl, htl, htt, hbox, hinv, hpas⟩ := hrel
  have HTT : Hid (Tt w wr ra rb (inn.length + 1) (out.length + 1) N B ag) := htt
  have HV : Hid (InvP (prM a b SA SB) inn out true (SA * SB) B) := hinv
  have HP : Hid (Pas inn out B0 ag B fun e i j => DT e i j t1) := hpas
  have u5 : wr.cell? ⟨w.heap.size + 1, 0, none⟩ = some (.int .i64 (SB : Int)) := (cell_of_row _ _ 0 _ _ _ htt.x5).trans h5
  have u9 := cell_of_row _ _ 0 _ _ _ htt.x9
  have u10 := cell_of_row _ _ 0 _ _ _ htt.x10
  have u11 := cell_of_row _ _ 0 _ _ _ htt.x11
  clear htt hinv hpas
  by_cases htB : t1 < SB
  ·have htB' : (t1 : Int) < (SB : Int) := by omega
   have hq1 := idx_ok HE.out.hN HE.out.hs htB HE.out.hi HE.out.hj
   have hq2 := idx_ok HE.out.hN HE.out.hs2 htB HE.out.hr HE.out.hj
   have hc1 := HTT.out.cell hq1
   have y0 := cell_of_row _ _ 0 _ _ _ hbox
   have y1 := cell_of_row _ _ 1 _ _ _ hbox
   have y4 := cell_of_row _ _ 4 _ _ _ hbox
   obtain ⟨p, hp⟩ : ∃ p, val B (idx (inn.length + 1) (out.length + 1) (s * SB + t1) i1 j1) = p := ⟨_, rfl⟩
   have HPV : Hid (val B (idx (inn.length + 1) (out.length + 1) (s * SB + t1) i1 j1) = p) := hp
   rw [hp] at hc1
   have KA := at_any SB s t1 (inn.length + 1) i1 (out.length + 1) j1 (w.heap.size + 1) (w.heap.size + 2) (w.heap.size + 3)
   have ba : SB ≤ 40 ∧ s ≤ 40 ∧ t1 ≤ 40 ∧ inn.length + 1 ≤ 20 ∧ i1 ≤ 20 ∧ out.length + 1 ≤ 20 ∧ j1 ≤ 20 := by
    have := HE.out.hA; have := HE.out.hB; have := HE.out.hs; have := HE.out.hn; have := HE.out.hi; have := HE.out.hk; have := HE.out.hj
    omega
   obtain ⟨b1, b2, b3, b4, b5, b6, b7⟩ := ba
   have KA := fun d => KA (wr.drewN d) u5 u9 u10 b1 b2 b3 b4 b5 b6 b7
   have hq1' : ((idx (inn.length + 1) (out.length + 1) (s * SB + t1) i1 j1 : Nat) : Int) < (N : Int) := by omega
   generalize hqg : idx (inn.length + 1) (out.length + 1) (s * SB + t1) i1 j1 = q1 at *
   clear b2 b4 b5 b6 b7 hp
   go_upto_region 33 with fail
   go_quiet (first | (go_at_call 35; exact Calls.quiet_of_same (KA _)))
   by_cases hpd : p < dear
   ·have hpd' := lt_dearI hpd
    have HPD : Hid (val B (idx (inn.length + 1) (cols out true) (s * SB + t1) i1 j1) < dear ∧ val B (idx (inn.length + 1) (cols out true) (s * SB + t1) i1 j1) = p) := by show _ ∧ _; rw [show cols out true = out.length + 1 from rfl, hqg, HPV.out]; exact ⟨hpd, rfl⟩
    obtain ⟨z, hz, hwp⟩ := wrap_p hpd (show x ≤ 2000000 by have := HE.out.hx; omega)
    have HZ : Hid (z = p + x) := hz
    clear hz
    have hb6 : bx ≠ w.heap.size + 6 := by omega
    have hbG : bx ≠ w.heap.size + 4 := by omega
    have HTD : Hid (Tt w (wr.drewN nq) ra rb (inn.length + 1) (out.length + 1) N B ag) := HTT.out.drewN nq
    have y1 : (wr.drewN nq).cell? ⟨bx, 1, none⟩ = _ := y1
    have y4 : (wr.drewN nq).cell? ⟨bx, 4, none⟩ = _ := y4
    have u5 : (wr.drewN nq).cell? ⟨w.heap.size + 1, 0, none⟩ = _ := u5
    have u9 : (wr.drewN nq).cell? ⟨w.heap.size + 2, 0, none⟩ = _ := u9
    have u10 : (wr.drewN nq).cell? ⟨w.heap.size + 3, 0, none⟩ = _ := u10
    have u11 : (wr.drewN nq).cell? ⟨w.heap.size + 5, 0, none⟩ = _ := u11
    have hbox : (wr.drewN nq).heap[bx]? = _ := hbox
    clear hqg HPV HTT KA hc1 y0
    generalize hVd : wr.drewN nq = Wd at *
    clear hVd
    go_upto_region 35 with fail
    refine wp_region_noPanic ?_
    refine wp_region_held_drew (S := fun W => W.cell? ⟨bx, 1, none⟩ = some (.int .i64 (s2 : Int)) ∧ W.cell? ⟨bx, 4, none⟩ = some (.int .i64 (x : Int))) (by kernel_rfl) (by exact ⟨y1, y4⟩) (fun hHeld => ?_)
    have HT0 : Hid (Tt w Wd.drew ra rb (inn.length + 1) (out.length + 1) N B ag) := HTD.out.drew
    have g1 : Wd.drew.cell? ⟨bx, 1, none⟩ = _ := y1
    have g4 : Wd.drew.cell? ⟨bx, 4, none⟩ = _ := y4
    have g5 : Wd.drew.cell? ⟨w.heap.size + 1, 0, none⟩ = _ := u5
    have g9 : Wd.drew.cell? ⟨w.heap.size + 2, 0, none⟩ = _ := u9
    have g10 : Wd.drew.cell? ⟨w.heap.size + 3, 0, none⟩ = _ := u10
    have g11 : Wd.drew.cell? ⟨w.heap.size + 5, 0, none⟩ = _ := u11
    have gbox : Wd.drew.heap[bx]? = _ := hbox
    generalize hV : Wd.drew = V0 at *
    clear hV
    refine tk (v := ?_) 0 { dst := some 132, op := .move (.tmp 15), type := 69, pos := "machine.go:149", after := #[], guard := none } (by rfl) ?_ ?_
    case refine_2 => intro w hSw; (try dsimp only at hSw); obtain ⟨z1, z4⟩ := hSw; go_simp; (try with_reducible rfl)
    simp only [Act.put, zS0, zS1, zS2]
    refine tk (v := ?_) 1 { dst := some 133, op := .move (.tmp 13), type := 68, pos := "machine.go:149", after := #[], guard := none } (by rfl) ?_ ?_
    case refine_2 => intro w hSw; (try dsimp only at hSw); obtain ⟨z1, z4⟩ := hSw; go_simp; (try with_reducible rfl)
    simp only [Act.put, zS0, zS1, zS2]
    refine tk (v := ?_) 2 { dst := some 134, op := .fieldAddr 64 (.tmp 20) 1, type := 0, pos := "machine.go:149", after := #[], guard := none } (by rfl) ?_ ?_
    case refine_2 => intro w hSw; (try dsimp only at hSw); obtain ⟨z1, z4⟩ := hSw; go_simp; (try with_reducible rfl)
    simp only [Act.put, zS0, zS1, zS2]
    refine tk (v := ?_) 3 { dst := some 135, op := .load 3 (.tmp 134), type := 3, pos := "machine.go:149", after := #[⟨2, .data⟩], guard := none } (by rfl) ?_ ?_
    case refine_2 => intro w hSw; (try dsimp only at hSw); obtain ⟨z1, z4⟩ := hSw; go_simp; (try with_reducible rfl)
    simp only [Act.put, zS0, zS1, zS2]
    refine tk (v := ?_) 4 { dst := some 136, op := .move (.tmp 22), type := 3, pos := "machine.go:149", after := #[], guard := none } (by rfl) ?_ ?_
    case refine_2 => intro w hSw; (try dsimp only at hSw); obtain ⟨z1, z4⟩ := hSw; go_simp; (try with_reducible rfl)
    simp only [Act.put, zS0, zS1, zS2]
    refine tk (v := ?_) 5 { dst := some 137, op := .move (.tmp 21), type := 3, pos := "machine.go:149", after := #[], guard := none } (by rfl) ?_ ?_
    case refine_2 => intro w hSw; (try dsimp only at hSw); obtain ⟨z1, z4⟩ := hSw; go_simp; (try with_reducible rfl)
    simp only [Act.put, zS0, zS1, zS2]
    refine tk (v := ?_) 6 { dst := some 138, op := .move (.tmp 18), type := 3, pos := "machine.go:149", after := #[], guard := none } (by rfl) ?_ ?_
    case refine_2 => intro w hSw; (try dsimp only at hSw); obtain ⟨z1, z4⟩ := hSw; go_simp; (try with_reducible rfl)
    simp only [Act.put, zS0, zS1, zS2]
    refine tk (v := ?_) 8 { dst := some 140, op := .move (.tmp 23), type := 3, pos := "machine.go:149", after := #[], guard := none } (by rfl) ?_ ?_
    case refine_2 => intro w hSw; (try dsimp only at hSw); obtain ⟨z1, z4⟩ := hSw; go_simp; (try with_reducible rfl)
    simp only [Act.put, zS0, zS1, zS2]
    refine tk (v := ?_) 9 { dst := some 141, op := .fieldAddr 64 (.tmp 20) 4, type := 0, pos := "machine.go:149", after := #[], guard := none } (by rfl) ?_ ?_
    case refine_2 => intro w hSw; (try dsimp only at hSw); obtain ⟨z1, z4⟩ := hSw; go_simp; (try with_reducible rfl)
    simp only [Act.put, zS0, zS1, zS2]
    refine tk (v := ?_) 10 { dst := some 142, op := .load 3 (.tmp 141), type := 3, pos := "machine.go:149", after := #[⟨9, .data⟩], guard := none } (by rfl) ?_ ?_
    case refine_2 => intro w hSw; (try dsimp only at hSw); obtain ⟨z1, z4⟩ := hSw; go_simp; (try with_reducible rfl)
    simp only [Act.put, zS0, zS1, zS2]
    refine tk (v := ?_) 11 { dst := some 143, op := .binOp .add 3 (.tmp 140) (.tmp 142) 3, type := 3, pos := "machine.go:149", after := #[⟨8, .data⟩, ⟨10, .data⟩], guard := none } (by rfl) ?_ ?_
    case refine_2 => intro w hSw; (try dsimp only at hSw); obtain ⟨z1, z4⟩ := hSw; go_simp; (try with_reducible rfl)
    simp only [Act.put, zS0, zS1, zS2]
    refine wpAnyH_ready (rs := [7]) (by kernel_rfl) (by simp) ?_
    refine (AllReadyH.cons (o := { dst := some 139, op := .call { callee := .value (.tmp 133), args := #[.tmp 135, .tmp 136, .tmp 137, .tmp 138], argTypes := #[3, 3, 3, 3] }, type := 3, pos := "machine.go:149", after := #[⟨1, .data⟩, ⟨3, .data⟩, ⟨4, .data⟩, ⟨5, .data⟩, ⟨6, .data⟩], guard := none }) rfl (fun K hK => ?_) AllReadyH.nil)
    go_simp
    have KA := at_any SB s2 t1 (inn.length + 1) r1 (out.length + 1) j1 (w.heap.size + 1) (w.heap.size + 2) (w.heap.size + 3) V0 g5 g9 g10 HE.out.hB (by have := HE.out.hA; have := HE.out.hs2; omega) (by have := HE.out.hB; omega) (by have := HE.out.hn; omega) (by have := HE.out.hr; have := HE.out.hn; omega) (by have := HE.out.hk; omega) (by have := HE.out.hj; have := HE.out.hk; omega)
    (with_reducible refine KA.mono ?_)
    clear KA
    rintro e2 w2 ⟨rfl, hw2⟩
    subst w2
    dsimp only
    refine hK.out _ _ ?_ (fun hHeld => ?_)
    ·exact ⟨g1, g4⟩
    clear hK K
    try simp only [Act.put, zS0, zS1, zS2]
    refine wpAnyH_ready (rs := [12]) (by kernel_rfl) (by simp) ?_
    refine (AllReadyH.cons (o := { dst := some 144, op := .call { callee := .value (.tmp 132), args := #[.tmp 139, .tmp 143], argTypes := #[3, 3] }, type := 0, pos := "machine.go:149", after := #[⟨0, .data⟩, ⟨7, .data⟩, ⟨11, .data⟩, ⟨7, .chain⟩], guard := none }) rfl (fun K hK => ?_) AllReadyH.nil)
    go_simp
    have KL := lower_any (idx (inn.length + 1) (out.length + 1) (s2 * SB + t1) r1 j1) N (w.heap.size + 4) (w.heap.size + 5) (w.heap.size + 6) z (val B (idx (inn.length + 1) (out.length + 1) (s2 * SB + t1) r1 j1)) V0 g11 hq2 (HT0.out.cell hq2) (HT0.out.tab.frozenAt _) ⟨_, HT0.out.x14⟩ (by omega)
    (with_reducible refine KL.mono ?_)
    clear KL
    rintro e3 w3 ⟨rfl, hw3⟩
    dsimp only
    refine hK.out _ _ ?_ (fun hHeld => ?_)
    ·(rw [hw3]; split; exact ⟨(cell_other2 _ _ _ _ _ _ hbG hb6).trans g1, (cell_other2 _ _ _ _ _ _ hbG hb6).trans g4⟩; exact ⟨g1, g4⟩)
    clear hK K
    try simp only [Act.put, zS0, zS1, zS2]
    refine wpAnyH_done (by kernel_rfl) ?_ _
    refine NoPanic.normal ?_
    have hz2 := HZ.out
    subst hz2
    by_cases hlow : p + x < val B (idx (inn.length + 1) (out.length + 1) (s2 * SB + t1) r1 j1)
    ·have HLW : Hid (val B (idx (inn.length + 1) (cols out true) (s * SB + t1) i1 j1) + x < val B (idx (inn.length + 1) (cols out true) (s2 * SB + t1) r1 j1)) := by show _ < _; rw [HPD.out.2]; exact hlow
     rw [if_pos hlow] at hw3
     have HT3 : Hid (Tt w w3 ra rb (inn.length + 1) (out.length + 1) N (B.set (idx (inn.length + 1) (out.length + 1) (s2 * SB + t1) r1 j1) (p + x)) true) := by rw [hw3]; exact HT0.out.low _ _
     have hbox3 : w3.heap[bx]? = some (.cells #[.int .i64 (s : Int), .int .i64 (s2 : Int), .int .i64 I0, .int .i64 0, .int .i64 (x : Int)] 64 (0, 0)) := by rw [hw3]; exact ((heap_setCell_other _ _ _ _ hb6).trans (heap_setCell_other _ _ _ _ hbG)).trans gbox
     have HL : Hid _ := look_took (fun e i j => DT e i j (t1 + 1)) (HE.out.mem t1 htB) (ea_1 SB s s2 x t1 I0) (ea_2 SB s s2 x t1 I0) (ea_5 SB s s2 x t1 I0) (by have := HE.out.hx; omega) (pair_lt HE.out.hs htB) (pair_lt HE.out.hs2 htB) HE.out.hi (show j1 < out.length + 1 from HE.out.hj) (HE.out.mv t1) HV.out HP.out (by rw [HTD.out.len]; have := N_small HE.out.hA HE.out.hB (show inn.length + 1 ≤ 9 by have := HE.out.hn; omega) (show out.length + 1 ≤ 9 by have := HE.out.hk; omega) HE.out.hN; omega) HPD.out.1 HLW.out
     have HL2 : Hid (InvP (prM a b SA SB) inn out true (SA * SB) (B.set (idx (inn.length + 1) (out.length + 1) (s2 * SB + t1) r1 j1) (p + x)) ∧ Pas inn out B0 true (B.set (idx (inn.length + 1) (out.length + 1) (s2 * SB + t1) r1 j1) (p + x)) fun e i j => DT e i j (t1 + 1)) := by have := HL.out; rw [HPD.out.2] at this; exact this
     clear hw3
     go_wp2
     go_roundw
     case rel => exact ⟨_, true, t1 + 1, by go_num, htB, HT3.out, hbox3, HL2.out.1, HL2.out.2⟩
     case measure => simp [intOf]; omega
    ·have HLW : Hid (¬ val B (idx (inn.length + 1) (cols out true) (s * SB + t1) i1 j1) + x < val B (idx (inn.length + 1) (cols out true) (s2 * SB + t1) r1 j1)) := by show ¬ _ < _; rw [HPD.out.2]; exact hlow
     rw [if_neg hlow] at hw3
     subst hw3
     have HL : Hid _ := look_kept (D' := fun e i j => DT e i j (t1 + 1)) (ea_1 SB s s2 x t1 I0) (ea_2 SB s s2 x t1 I0) (ea_5 SB s s2 x t1 I0) (HE.out.mv t1) HP.out (hD t1) HLW.out
     go_wp2
     go_roundw
     case rel => exact ⟨B, ag, t1 + 1, by go_num, htB, HT0.out, gbox, HV.out, HL.out⟩
     case measure => simp [intOf]; omega
   ·have hpd' := ge_dearI hpd
    have HPD : Hid (val B (idx (inn.length + 1) (cols out true) (s * SB + t1) i1 j1) = dear) := by show _ = _; rw [show cols out true = out.length + 1 from rfl, hqg, HPV.out]; have := HV.out.top q1; rw [HPV.out] at this; omega
    have HL : Hid (Pas inn out B0 ag B fun e i j => DT e i j (t1 + 1)) := look_dear (ea_1 SB s s2 x t1 I0) HP.out (hD t1) HPD.out
    clear hqg HPV
    go_wp2
    go_roundw
    case rel => exact ⟨B, ag, t1 + 1, by go_num, htB, HTT.out.drewN nq, hbox, HV.out, HL.out⟩
    case measure => simp [intOf]; omega
  ·have htB' : ¬ (t1 : Int) < (SB : Int) := by omega
   obtain rfl : t1 = SB := by omega
   go_wp2
   exact HX.out _ _ _ _ _ _ _ _ _ _ _ _ _ _ _ _ _ _ _ _ _ _ _ _ _ _ _ _ _ _ _ _ _ _ _ HTT.out hbox HV.out HP.out
end Go.Proofs.YtfjocafepigijaaDoor.Tc
