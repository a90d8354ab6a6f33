/- The document's Cost: the innermost of its rounds. Conditions: the machine is right, and texts have at most 61 symbols. -/
import Derived.Test.YtfjocafepigijaaDoorTbM
import Derived.Deep.LoopGhost
import Derived.Deep.QuietTactic
import Derived.BigQuiet
namespace Go.Proofs.YtfjocafepigijaaDoor.CR
open Go.RowKit Mv Wk

theorem info3 : (Tryd.prog.info? 3).map (fun i => (i.zero, i.size, i.bytes)) = some (some (.int .i64 0), 1, 8) := by kernel_rfl

/-- numbers as cells -/
def nc (B : List Nat) : List Value := B.map fun (x : Nat) => Value.int .i64 (x : Int)
theorem nc_at (B : List Nat) (q : Nat) (h : q < B.length) : (nc B)[q]? = some (.int .i64 (val B q : Nat)) := by
  unfold nc val
  simp [h]
theorem nc_set (B : List Nat) (q v : Nat) : (nc B).set q (.int .i64 (v : Nat)) = nc (B.set q v) := by
  unfold nc
  rw [List.map_set]

/-- the table lies in a block of its own; what lay below stands -/
def St (w0 wr : World) (G N : Nat) (B : List Nat) : Prop := wr.ownsRow G 3 1 (.slice (some ⟨G, 0, none⟩) N N) N (nc B) ∧ Below G w0 wr ∧ B.length = N
theorem St.cell {w0 wr : World} {G N : Nat} {B : List Nat} (h : St w0 wr G N B) (q : Nat) (hq : q < N) : wr.cell? ⟨G, q, none⟩ = some (.int .i64 (val B q : Nat)) := by
  rw [h.1.cellAt q (by omega)]
  exact nc_at B q (by rw [h.2.2]; exact hq)
theorem St.frozen {w0 wr : World} {G N : Nat} {B : List Nat} (h : St w0 wr G N B) (q : Nat) : wr.frozen? ⟨G, q, none⟩ = false := h.1.frozenAt q
theorem St.store {w0 wr : World} {G N : Nat} {B : List Nat} (h : St w0 wr G N B) (q v : Nat) (hG : G ≤ wr.heap.size) : St w0 (wr.setCell ⟨G, q, none⟩ (.int .i64 (v : Nat))) G N (B.set q v) ∧ wr.grownBy (wr.setCell ⟨G, q, none⟩ (.int .i64 (v : Nat))) (some G) := by
  have hst := h.1.stored q (.int .i64 (v : Nat))
  rw [nc_set] at hst
  refine ⟨⟨hst.1, h.2.1.grown hst.2 hG (fun j hj => by cases hj; exact Nat.le_refl _), by rw [List.length_set]; exact h.2.2⟩, hst.2⟩
theorem St.storeI {w0 wr : World} {G N : Nat} {B : List Nat} (h : St w0 wr G N B) (q v : Nat) (x : Int) (hx : x = (v : Nat)) (hG : G ≤ wr.heap.size) : St w0 (wr.setCell ⟨G, q, none⟩ (.int .i64 x)) G N (B.set q v) ∧ wr.grownBy (wr.setCell ⟨G, q, none⟩ (.int .i64 x)) (some G) := by
  rw [hx]
  exact h.store q v hG
theorem dear_int : (1152921504606846976 : Int) = ((dear : Nat) : Int) := by unfold dear; omega
theorem St.drewN {w0 wr : World} {G N : Nat} {B : List Nat} (h : St w0 wr G N B) (d : Nat) : St w0 (wr.drewN d) G N B := ⟨h.1, below_drewN h.2.1 d, h.2.2⟩
theorem St.alloc {w0 wr : World} {G N : Nat} {B : List Nat} (h : St w0 wr G N B) (hG : G ≤ wr.heap.size) (o : Obj) : St w0 (wr.alloc o) G N B := ⟨h.1.alloc o, h.2.1.alloc hG o, h.2.2⟩

theorem wrap_nat {x : Int} {R : Nat} (h : x = (R : Int)) (hR : R ≤ 1000000000) : wrap64 x = (R : Int) := by
  subst h
  unfold wrap64
  omega

/-- a cell of an argument, below the table -/
theorem St.old {w0 wr : World} {G N : Nat} {B : List Nat} (h : St w0 wr G N B) {b q : Nat} (hb : b < G) : wr.cell? ⟨b, q, none⟩ = w0.cell? ⟨b, q, none⟩ := h.2.1.cell (p := ⟨b, q, none⟩) hb


/-- the bodies of a text's loops, from the outside in -/
def loops : Code → List Code
  | .loop c => c :: loops c
  | .seq a b => loops a ++ loops b
  | .block _ c => loops c
  | .scope c => loops c
  | .cond _ a b => loops a ++ loops b
  | _ => []
noncomputable def bodyJ : Code := ((Tryd.f12.body.map loops).getD []).getD 4 .skip

theorem placed {S : Nat} {inn out : List Int} {f i j : Nat} (hS : S ≤ 3000) (hn : inn.length ≤ 61) (hk : out.length ≤ 61) (hf : f < S) (hi : i < inn.length + 1) (hj : j < out.length + 1) :
    ∃ P1 P3 P2 PJ : Nat, wrap64 ((f : Int) * ((inn.length : Int) + 1)) = (P1 : Int) ∧ wrap64 ((P1 : Int) + (i : Int)) = (P3 : Int) ∧ wrap64 ((P3 : Int) * ((out.length : Int) + 1)) = (P2 : Int) ∧ wrap64 ((P2 : Int) + (j : Int)) = (PJ : Int) ∧ PJ = idx (inn.length + 1) (cols out true) f i j := by
  have h1 : f * (inn.length + 1) ≤ 186000 := Nat.le_trans (Nat.mul_le_mul (Nat.le_of_lt (Nat.lt_of_lt_of_le hf hS)) (show inn.length + 1 ≤ 62 by omega)) (by decide)
  have h2 : (f * (inn.length + 1) + i) * (out.length + 1) ≤ 11536000 := Nat.le_trans (Nat.mul_le_mul (show f * (inn.length + 1) + i ≤ 186064 by omega) (show out.length + 1 ≤ 62 by omega)) (by decide)
  refine ⟨f * (inn.length + 1), f * (inn.length + 1) + i, (f * (inn.length + 1) + i) * (out.length + 1), (f * (inn.length + 1) + i) * (out.length + 1) + j, ?_, ?_, ?_, ?_, rfl⟩
  · exact wrap_nat (by simp) (by omega)
  · exact wrap_nat (by simp) (by omega)
  · exact wrap_nat (by simp) (by omega)
  · exact wrap_nat (by simp) (by omega)
theorem wrap_same (x : Int) : IntKind.i64.wrap x = wrap64 x := by rw [IntKind.wrap_i64]; unfold wrap64; first | rfl | omega
theorem meas {j1 j2 n : Nat} (h : j2 = j1 + 1) (h' : j2 ≤ n) : n - (intOf (.int .i64 (j2 : Int))).toNat < n - (intOf (.int .i64 (j1 : Int))).toNat := by
  simp [intOf]
  omega
theorem wrap_up {n : Nat} (h : n ≤ 1000000) : ∃ m : Nat, m = n + 1 ∧ wrap64 ((n : Int) + 1) = (m : Int) := ⟨n + 1, rfl, wrap_nat (by simp) (by omega)⟩
theorem wrap_plus {p x : Nat} (hp : p < dear) (hx : x ≤ 1000000) : ∃ m : Nat, m = p + x ∧ wrap64 ((p : Int) + (x : Int)) = (m : Int) := by
  refine ⟨p + x, rfl, ?_⟩
  unfold dear at hp
  unfold wrap64
  omega
theorem not_dear {p : Nat} (hp : p < dear) : ((p : Int) == 1152921504606846976) = false := by
  unfold dear at hp
  have : ¬ (p : Int) = 1152921504606846976 := by omega
  simpa using this
theorem ne_beq {a b : Nat} (h : a < b) : ((a : Int) == (b : Int)) = false := by
  have : ¬ (a : Int) = (b : Int) := by omega
  simpa using this
/-- how a list of numbers lies -/
def Lies (w : World) (G : Nat) (a : Option Addr) (l : List Int) : Prop := l.length = 0 ∨ ∃ b off, a = some ⟨b, off, none⟩ ∧ b < G ∧ ∀ j u, (l.map (Value.int .i64))[j]? = some u → w.cell? ⟨b, off + j, none⟩ = some u
theorem Lies.at {w0 wr : World} {G N : Nat} {B : List Nat} {a : Option Addr} {l : List Int} (h : Lies w0 G a l) (hst : St w0 wr G N B) {i : Nat} (hi : i < l.length) : ∃ b off, a = some ⟨b, off, none⟩ ∧ b < G ∧ wr.cell? ⟨b, off + i, none⟩ = some (.int .i64 l[i]) := by
  rcases h with h | ⟨b, off, e, hb, hc⟩
  · omega
  · refine ⟨b, off, e, hb, ?_⟩
    rw [hst.old hb]
    exact hc i _ (by simp [hi])
/-- a round's facts that the walk need not see -/
structure Env (S N G bx X i1 f t x : Nat) (I O : Int) (arcs : List (Int × Int × Int × Int × Int)) (fins : List (Int × Int)) (inn out : List Int) (ai ao : Option Addr) (w0 : World) : Prop where
  hS : S ≤ 3000
  hn : inn.length ≤ 61
  hk : out.length ≤ 61
  hX : X < arcs.length
  he : arcs[X] = ((f : Int), (t : Int), I, O, (x : Int))
  hf : f < S
  ht : t < S
  hx : x ≤ 1000000
  hI : 0 ≤ I
  hO : 0 ≤ O
  hN : N = S * (inn.length + 1) * (out.length + 1)
  hNb : N ≤ 11532000
  hi : i1 < inn.length + 1
  hG : G < bx
  li : Lies w0 G ai inn
  lo : Lies w0 G ao out
theorem Env.lt {S N G bx X i1 f t x : Nat} {I O : Int} {arcs : List (Int × Int × Int × Int × Int)} {fins : List (Int × Int)} {inn out : List Int} {ai ao : Option Addr} {w0 : World} (E : Env S N G bx X i1 f t x I O arcs fins inn out ai ao w0) {s i j : Nat} (hs : s < S) (hi : i < inn.length + 1) (hj : j < out.length + 1) : idx (inn.length + 1) (cols out true) s i j < N := by
  rw [E.hN]
  exact idx_lt hs hi hj

set_option maxHeartbeats 8000000 in
set_option maxRecDepth 1000000 in
set_option pp.deepTerms true in
set_option pp.maxSteps 100000 in
theorem loopJ (S N G bx X i1 f t x ci co : Nat) (I O : Int) (arcs : List (Int × Int × Int × Int × Int)) (fins : List (Int × Int)) (inn out : List Int) (ai ao : Option Addr) (B0 : List Nat) (w0 wi : World) (ag : Bool) (B : List Nat) (c0 c4 c5 c6 c7 c8 c12 c14 c22 c23 c24 c25 c26 c27 c28 c29 c30 c31 c32 c33 c34 c35 c36 c37 c38 c39 c40 c41 c42 c43 c44 c45 c46 c47 c48 c49 c50 c51 c52 c53 c54 c55 c56 c57 c58 c59 c60 c61 c62 c63 c64 c65 c66 c67 c68 c69 c157 c158 c159 c160 c161 c162 c163 c164 c165 c166 c167 c168 c169 c170 c171 c172 c173 c174 c175 c176 c177 c178 c179 c180 c181 c182 c183 c184 c185 c186 c187 c188 c189 c190 c191 c192 c193 c194 c195 c196 c197 c198 : Value) (u18 u19 u20 u21 u70 u71 u72 u73 u74 u75 u76 u77 u78 u79 u80 u81 u82 u83 u84 u85 u86 u87 u88 u89 u90 u91 u92 u93 u94 u95 u96 u97 u98 u99 u100 u101 u102 u103 u104 u105 u106 u107 u108 u109 u110 u111 u112 u113 u114 u115 u116 u117 u118 u119 u120 u121 u122 u123 u124 u125 u126 u127 u128 u129 u130 u131 u132 u133 u134 u135 u136 u137 u138 u139 u140 u141 u142 u143 u144 u145 u146 u147 u148 u149 u150 u151 u152 u153 u154 u155 u156 : Value)
    (HE : Hid (Env S N G bx X i1 f t x I O arcs fins inn out ai ao w0)) (hst : St w0 wi G N B) (hbox : wi.heap[bx]? = some (.cells #[.int .i64 (f : Int), .int .i64 (t : Int), .int .i64 I, .int .i64 O, .int .i64 (x : Int)] 64 (0, 0))) (HV : Hid (Inv ⟨(S : Int), arcs, fins⟩ inn out true S B)) (HP : Hid (Pass arcs inn out B0 ag B X i1 0)) (Q0 : Exit → Act → World → Prop)
    (hexit : ∀ (ag : Bool) (B : List Nat) (wr : World) (v18 v19 v20 v21 v70 v71 v72 v73 v74 v75 v76 v77 v78 v79 v80 v81 v82 v83 v84 v85 v86 v87 v88 v89 v90 v91 v92 v93 v94 v95 v96 v97 v98 v99 v100 v101 v102 v103 v104 v105 v106 v107 v108 v109 v110 v111 v112 v113 v114 v115 v116 v117 v118 v119 v120 v121 v122 v123 v124 v125 v126 v127 v128 v129 v130 v131 v132 v133 v134 v135 v136 v137 v138 v139 v140 v141 v142 v143 v144 v145 v146 v147 v148 v149 v150 v151 v152 v153 v154 v155 v156 : Value), St w0 wr G N B → wr.heap[bx]? = some (.cells #[.int .i64 (f : Int), .int .i64 (t : Int), .int .i64 I, .int .i64 O, .int .i64 (x : Int)] 64 (0, 0)) → Inv ⟨(S : Int), arcs, fins⟩ inn out true S B → Pass arcs inn out B0 ag B X i1 (cols out true) → Q0 (.exit 8) ⟨#[c0, .slice ai inn.length ci, .slice ao out.length co, .bool true, c4, c5, c6, c7, c8, .int .i64 ((inn.length : Int) + 1), .int .i64 ((out.length : Int) + 1), .slice (some ⟨G, 0, none⟩) N N, c12, .bool ag, c14, .pointer (some ⟨bx, 0, none⟩), .int .i64 (i1 : Int), .int .i64 ((out.length + 1 : Nat) : Int), v18, v19, v20, v21, c22, c23, c24, c25, c26, c27, c28, c29, c30, c31, c32, c33, c34, c35, c36, c37, c38, c39, c40, c41, c42, c43, c44, c45, c46, c47, c48, c49, c50, c51, c52, c53, c54, c55, c56, c57, c58, c59, c60, c61, c62, c63, c64, c65, c66, c67, c68, c69, v70, v71, v72, v73, v74, v75, v76, v77, v78, v79, v80, v81, v82, v83, v84, v85, v86, v87, v88, v89, v90, v91, v92, v93, v94, v95, v96, v97, v98, v99, v100, v101, v102, v103, v104, v105, v106, v107, v108, v109, v110, v111, v112, v113, v114, v115, v116, v117, v118, v119, v120, v121, v122, v123, v124, v125, v126, v127, v128, v129, v130, v131, v132, v133, v134, v135, v136, v137, v138, v139, v140, v141, v142, v143, v144, v145, v146, v147, v148, v149, v150, v151, v152, v153, v154, v155, v156, c157, c158, c159, c160, c161, c162, c163, c164, c165, c166, c167, c168, c169, c170, c171, c172, c173, c174, c175, c176, c177, c178, c179, c180, c181, c182, c183, c184, c185, c186, c187, c188, c189, c190, c191, c192, c193, c194, c195, c196, c197, c198], []⟩ wr) :
    Code.wp Tryd.prog (Code.loop bodyJ) Q0 ⟨#[c0, .slice ai inn.length ci, .slice ao out.length co, .bool true, c4, c5, c6, c7, c8, .int .i64 ((inn.length : Int) + 1), .int .i64 ((out.length : Int) + 1), .slice (some ⟨G, 0, none⟩) N N, c12, .bool ag, c14, .pointer (some ⟨bx, 0, none⟩), .int .i64 (i1 : Int), .int .i64 0, u18, u19, u20, u21, c22, c23, c24, c25, c26, c27, c28, c29, c30, c31, c32, c33, c34, c35, c36, c37, c38, c39, c40, c41, c42, c43, c44, c45, c46, c47, c48, c49, c50, c51, c52, c53, c54, c55, c56, c57, c58, c59, c60, c61, c62, c63, c64, c65, c66, c67, c68, c69, u70, u71, u72, u73, u74, u75, u76, u77, u78, u79, u80, u81, u82, u83, u84, u85, u86, u87, u88, u89, u90, u91, u92, u93, u94, u95, u96, u97, u98, u99, u100, u101, u102, u103, u104, u105, u106, u107, u108, u109, u110, u111, u112, u113, u114, u115, u116, u117, u118, u119, u120, u121, u122, u123, u124, u125, u126, u127, u128, u129, u130, u131, u132, u133, u134, u135, u136, u137, u138, u139, u140, u141, u142, u143, u144, u145, u146, u147, u148, u149, u150, u151, u152, u153, u154, u155, u156, c157, c158, c159, c160, c161, c162, c163, c164, c165, c166, c167, c168, c169, c170, c171, c172, c173, c174, c175, c176, c177, c178, c179, c180, c181, c182, c183, c184, c185, c186, c187, c188, c189, c190, c191, c192, c193, c194, c195, c196, c197, c198], []⟩ wi := by
  dsimp only at hexit ⊢
  conv => arg 2; arg 1; whnf
  have HX : Hid _ := hexit
  clear hexit
  go_loopw [13, 17] (fun a j wr => ∃ (ag : Bool) (B : List Nat) (j1 : Nat), a = .bool ag ∧ j = .int .i64 j1 ∧ j1 ≤ out.length + 1 ∧ St w0 wr G N B ∧ wr.heap[bx]? = some (.cells #[.int .i64 (f : Int), .int .i64 (t : Int), .int .i64 I, .int .i64 O, .int .i64 (x : Int)] 64 (0, 0)) ∧ Inv ⟨(S : Int), arcs, fins⟩ inn out true S B ∧ Pass arcs inn out B0 ag B X i1 j1) (fun _ j _ => out.length + 1 - (intOf j).toNat)
  case atStart => exact ⟨ag, B, 0, rfl, rfl, Nat.zero_le _, hst, hbox, HV.out, HP.out⟩
  case round =>
    clear hst hbox HP HV
    obtain ⟨ag, B, j1, rfl, rfl, hj1, hst, hbox, hinv, hpass⟩ := hrel
    have hbs : bx < wr.heap.size := (Array.getElem?_eq_some_iff.1 hbox).1
    have HP : Hid _ := hpass
    have HV : Hid _ := hinv
    have HG : Hid (G ≤ wr.heap.size) := Nat.le_of_lt (Nat.lt_trans HE.out.hG hbs)
    clear hpass hinv
    by_cases hjl : j1 < out.length + 1
    · have y0 : wr.cell? ⟨bx, 0, none⟩ = some (.int .i64 (f : Int)) := cell_of_row wr bx 0 _ 64 (0, 0) hbox
      have y1 : wr.cell? ⟨bx, 1, none⟩ = some (.int .i64 (t : Int)) := cell_of_row wr bx 1 _ 64 (0, 0) hbox
      have y2 : wr.cell? ⟨bx, 2, none⟩ = some (.int .i64 I) := cell_of_row wr bx 2 _ 64 (0, 0) hbox
      have y3 : wr.cell? ⟨bx, 3, none⟩ = some (.int .i64 O) := cell_of_row wr bx 3 _ 64 (0, 0) hbox
      have y4 : wr.cell? ⟨bx, 4, none⟩ = some (.int .i64 (x : Int)) := cell_of_row wr bx 4 _ 64 (0, 0) hbox
      have dj : decide ((j1 : Int) < (out.length : Int) + 1) = true := decide_eq_true (by omega)
      obtain ⟨P1, P3, P2, PJ, m3, a3, m4, a4, eI⟩ := placed HE.out.hS HE.out.hn HE.out.hk HE.out.hf HE.out.hi hjl
      obtain ⟨j2, ej2, a5⟩ := wrap_up (n := j1) (by have := HE.out.hk; omega)
      have HJ2 : Hid (j2 = j1 + 1) := ej2
      have HJ : Hid (j2 ≤ out.length + 1) := by rw [ej2]; exact hjl
      have HJL : Hid (j1 < cols out true) := hjl
      have hPN : PJ < N := by rw [eI]; exact HE.out.lt HE.out.hf HE.out.hi hjl
      have cP := hst.cell PJ hPN
      have HEI : Hid (PJ = idx (inn.length + 1) (cols out true) f i1 j1) := eI
      clear eI hj1 hjl ej2
      by_cases hd : val B PJ = dear
      · have hd2 : wr.cell? ⟨G, PJ, none⟩ = some (.int .i64 1152921504606846976) := by rw [cP, hd, ← dear_int]
        have HPs : Hid (Pass arcs inn out B0 ag B X i1 j2) := by rw [HJ2.out]; exact Pass.skip HP.out HE.out.hX (by rw [HE.out.he]; exact rel_dear rfl (by rw [← HEI.out]; exact hd))
        clear cP hd
        go_wp2
        repeat (go_quiet (fail); go_wp2)
        go_roundw
        case rel => exact ⟨ag, B, j2, rfl, by first | rfl | go_num, HJ.out, by first | exact hst | exact hst.drewN _, hbox, HV.out, HPs.out⟩
        case measure => first | exact meas HJ2.out HJ.out | (rw [a5]; exact meas HJ2.out HJ.out)
      · obtain ⟨pv, hpv⟩ : ∃ v, val B PJ = v := ⟨_, rfl⟩
        have hpd : pv < dear := hpv ▸ Nat.lt_of_le_of_ne (HV.out.top PJ) hd
        have HPV : Hid (val B PJ = pv) := hpv
        rw [hpv] at cP
        have dP := not_dear hpd
        obtain ⟨pw, epw, m7⟩ := wrap_plus hpd HE.out.hx
        have m8 : IntKind.i64.wrap ((pv : Int) + (x : Int)) = (pw : Int) := (wrap_same _).trans m7
        have HPW : Hid (pw = pv + x) := epw
        have HPD : Hid (pv < dear) := hpd
        clear epw hpv hd hpd
        by_cases hI0 : I = 0
        · subst hI0
          by_cases hO0 : O = 0
          · subst hO0
            have hmv : Wk.Move inn out true ((f : Int), (t : Int), 0, 0, (x : Int)) i1 j1 i1 j1 := ⟨Or.inl ⟨rfl, rfl⟩, Or.inl ⟨Or.inl rfl, rfl⟩⟩
            have hbd := hmv.bd HE.out.hi HJL.out
            obtain ⟨Q1, Q3, Q2, QJ, n1, n2, n3, n4, eQ⟩ := placed HE.out.hS HE.out.hn HE.out.hk HE.out.ht hbd.1 hbd.2
            have hQN : QJ < N := by rw [eQ]; exact HE.out.lt HE.out.ht hbd.1 hbd.2
            have cQ := hst.cell QJ hQN
            have fQ := hst.frozen QJ
            obtain ⟨qv, hqv⟩ : ∃ v, val B QJ = v := ⟨_, rfl⟩
            rw [hqv] at cQ
            have HQ : Hid (val B QJ = qv) := hqv
            have HQI : Hid (QJ = idx (inn.length + 1) (cols out true) t i1 j1) := eQ
            have HM : Hid (Wk.Move inn out true ((f : Int), (t : Int), 0, 0, (x : Int)) i1 j1 i1 j1) := hmv
            clear hqv hmv hbd eQ
            by_cases hbet : pv + x < qv
            · have dB : decide ((pw : Int) < (qv : Int)) = true := decide_eq_true (by have := HPW.out; omega)
              have HB : Hid (pv + x < qv) := hbet
              have nb : (pw : Int) < (qv : Int) := of_decide_eq_true dB
              clear hbet dB
              go_wp2
              repeat (go_quiet (fail); go_wp2)
              go_roundw
              case rel =>
                have hstp := HV.out.step X HE.out.hX f t i1 j1 i1 j1 x HE.out.hf HE.out.ht HE.out.hi HJL.out (by rw [HE.out.he]) (by rw [HE.out.he]) (by rw [HE.out.he]) HE.out.hx (by rw [HE.out.he]; exact HM.out) (by rw [← HEI.out, HPV.out]; exact HPD.out) (by rw [hst.2.2]; have := HE.out.hNb; omega) (by rw [← HEI.out, ← HQI.out, HPV.out, HQ.out]; exact HB.out)
                rw [← HEI.out, ← HQI.out, HPV.out] at hstp
                first
                  | (have hss := hst.storeI QJ (pv + x) (pw : Int) (by rw [HPW.out]) HG.out; exact ⟨true, B.set QJ (pv + x), j2, rfl, by first | rfl | go_num, HJ.out, hss.1, by rw [hss.2.block _ hbs (by intro h; cases h; exact absurd HE.out.hG (Nat.lt_irrefl _))]; exact hbox, hstp.1, Pass.took HP.out hstp.2⟩)
                  | exact ⟨true, B.set QJ (pv + x), j2, rfl, by first | rfl | go_num, HJ.out, ((hst.drewN _).storeI QJ (pv + x) (pw : Int) (by rw [HPW.out]) HG.out).1, by rw [((hst.drewN _).storeI QJ (pv + x) (pw : Int) (by rw [HPW.out]) HG.out).2.block _ hbs (by intro h; cases h; exact absurd HE.out.hG (Nat.lt_irrefl _))]; exact hbox, hstp.1, Pass.took HP.out hstp.2⟩
              case measure => first | exact meas HJ2.out HJ.out | (rw [a5]; exact meas HJ2.out HJ.out)
            · have dB : decide ((pw : Int) < (qv : Int)) = false := decide_eq_false (by have := HPW.out; omega)
              have HPs : Hid (Pass arcs inn out B0 ag B X i1 j2) := by rw [HJ2.out]; exact Pass.skip HP.out HE.out.hX (by rw [HE.out.he]; exact rel_kept rfl rfl rfl HM.out (by rw [← HEI.out, ← HQI.out, HPV.out, HQ.out]; exact hbet))
              have nb : ¬ ((pw : Int) < (qv : Int)) := of_decide_eq_false dB
              have nb2 : (qv : Int) ≤ (pw : Int) := Int.not_lt.1 nb
              clear hbet dB
              go_wp2
              repeat (go_quiet (fail); go_wp2)
              go_roundw
              case rel => exact ⟨ag, B, j2, rfl, by first | rfl | go_num, HJ.out, by first | exact hst | exact hst.drewN _, hbox, HV.out, HPs.out⟩
              case measure => first | exact meas HJ2.out HJ.out | (rw [a5]; exact meas HJ2.out HJ.out)
          · have dO : decide ((0 : Int) < O) = true := decide_eq_true (by have := HE.out.hO; omega)
            by_cases hje : j1 = out.length
            · have bj : ((j1 : Int) == (out.length : Int)) = true := by rw [hje]; simp
              have HJe : Hid (j1 = out.length) := hje
              clear hje
              have HPs : Hid (Pass arcs inn out B0 ag B X i1 j2) := by rw [HJ2.out]; exact Pass.skip HP.out HE.out.hX (by rw [HE.out.he]; exact rel_none (fun i' j' hm => by rcases hm.2 with ⟨h | h, _⟩ | ⟨_, _, h, _⟩ <;> first | exact hO0 h | cases h | (rw [HJe.out, List.getElem?_eq_none (Nat.le_refl _)] at h; cases h)))
              go_wp2
              repeat (go_quiet (fail); go_wp2)
              go_roundw
              case rel => exact ⟨ag, B, j2, rfl, by first | rfl | go_num, HJ.out, by first | exact hst | exact hst.drewN _, hbox, HV.out, HPs.out⟩
              case measure => first | exact meas HJ2.out HJ.out | (rw [a5]; exact meas HJ2.out HJ.out)
            · have hjl2 : j1 < out.length := by have := HJL.out; have e : cols out true = out.length + 1 := rfl; omega
              obtain ⟨bo, oo, rfl, hbo, co1⟩ := HE.out.lo.at hst hjl2
              have bj := ne_beq hjl2
              obtain ⟨oj, hoj⟩ : ∃ v, out[j1] = v := ⟨_, rfl⟩
              rw [hoj] at co1
              have HOJ : Hid (out[j1]? = some oj) := by rw [List.getElem?_eq_getElem hjl2, hoj]; trivial
              clear hoj hje
              by_cases hOm : oj = O
              · subst hOm
                have bo2 : (oj != oj) = false := by simp
                have hmv : Wk.Move inn out true ((f : Int), (t : Int), 0, oj, (x : Int)) i1 j1 i1 j2 := ⟨Or.inl ⟨rfl, rfl⟩, Or.inr ⟨(show (0 : Int) < oj by have := HE.out.hO; omega), rfl, HOJ.out, HJ2.out⟩⟩
                have hbd := hmv.bd HE.out.hi HJL.out
                obtain ⟨Q1, Q3, Q2, QJ, n1, n2, n3, n4, eQ⟩ := placed HE.out.hS HE.out.hn HE.out.hk HE.out.ht hbd.1 hbd.2
                have hQN : QJ < N := by rw [eQ]; exact HE.out.lt HE.out.ht hbd.1 hbd.2
                have cQ := hst.cell QJ hQN
                have fQ := hst.frozen QJ
                obtain ⟨qv, hqv⟩ : ∃ v, val B QJ = v := ⟨_, rfl⟩
                rw [hqv] at cQ
                have HQ : Hid (val B QJ = qv) := hqv
                have HQI : Hid (QJ = idx (inn.length + 1) (cols out true) t i1 j2) := eQ
                have HM : Hid (Wk.Move inn out true ((f : Int), (t : Int), 0, oj, (x : Int)) i1 j1 i1 j2) := hmv
                clear hqv hmv hbd eQ
                by_cases hbet : pv + x < qv
                · have dB : decide ((pw : Int) < (qv : Int)) = true := decide_eq_true (by have := HPW.out; omega)
                  have HB : Hid (pv + x < qv) := hbet
                  have nb : (pw : Int) < (qv : Int) := of_decide_eq_true dB
                  clear hbet dB
                  go_wp2
                  repeat (go_quiet (fail); go_wp2)
                  go_roundw
                  case rel =>
                    have hstp := HV.out.step X HE.out.hX f t i1 j1 i1 j2 x HE.out.hf HE.out.ht HE.out.hi HJL.out (by rw [HE.out.he]) (by rw [HE.out.he]) (by rw [HE.out.he]) HE.out.hx (by rw [HE.out.he]; exact HM.out) (by rw [← HEI.out, HPV.out]; exact HPD.out) (by rw [hst.2.2]; have := HE.out.hNb; omega) (by rw [← HEI.out, ← HQI.out, HPV.out, HQ.out]; exact HB.out)
                    rw [← HEI.out, ← HQI.out, HPV.out] at hstp
                    first
                      | (have hss := hst.storeI QJ (pv + x) (pw : Int) (by rw [HPW.out]) HG.out; exact ⟨true, B.set QJ (pv + x), j2, rfl, by first | rfl | go_num, HJ.out, hss.1, by rw [hss.2.block _ hbs (by intro h; cases h; exact absurd HE.out.hG (Nat.lt_irrefl _))]; exact hbox, hstp.1, Pass.took HP.out hstp.2⟩)
                      | exact ⟨true, B.set QJ (pv + x), j2, rfl, by first | rfl | go_num, HJ.out, ((hst.drewN _).storeI QJ (pv + x) (pw : Int) (by rw [HPW.out]) HG.out).1, by rw [((hst.drewN _).storeI QJ (pv + x) (pw : Int) (by rw [HPW.out]) HG.out).2.block _ hbs (by intro h; cases h; exact absurd HE.out.hG (Nat.lt_irrefl _))]; exact hbox, hstp.1, Pass.took HP.out hstp.2⟩
                  case measure => first | exact meas HJ2.out HJ.out | (rw [a5]; exact meas HJ2.out HJ.out)
                · have dB : decide ((pw : Int) < (qv : Int)) = false := decide_eq_false (by have := HPW.out; omega)
                  have HPs : Hid (Pass arcs inn out B0 ag B X i1 j2) := by rw [HJ2.out]; exact Pass.skip HP.out HE.out.hX (by rw [HE.out.he]; exact rel_kept rfl rfl rfl HM.out (by rw [← HEI.out, ← HQI.out, HPV.out, HQ.out]; exact hbet))
                  have nb : ¬ ((pw : Int) < (qv : Int)) := of_decide_eq_false dB
                  have nb2 : (qv : Int) ≤ (pw : Int) := Int.not_lt.1 nb
                  clear hbet dB
                  go_wp2
                  repeat (go_quiet (fail); go_wp2)
                  go_roundw
                  case rel => exact ⟨ag, B, j2, rfl, by first | rfl | go_num, HJ.out, by first | exact hst | exact hst.drewN _, hbox, HV.out, HPs.out⟩
                  case measure => first | exact meas HJ2.out HJ.out | (rw [a5]; exact meas HJ2.out HJ.out)
              · have bo2 : (oj != O) = true := by simpa using hOm
                have HPs : Hid (Pass arcs inn out B0 ag B X i1 j2) := by rw [HJ2.out]; exact Pass.skip HP.out HE.out.hX (by rw [HE.out.he]; exact rel_none (fun i' j' hm => by rcases hm.2 with ⟨h | h, _⟩ | ⟨_, _, h, _⟩ <;> first | exact hO0 h | cases h | (rw [HOJ.out] at h; exact hOm (by simpa using h))))
                go_wp2
                repeat (go_quiet (fail); go_wp2)
                go_roundw
                case rel => exact ⟨ag, B, j2, rfl, by first | rfl | go_num, HJ.out, by first | exact hst | exact hst.drewN _, hbox, HV.out, HPs.out⟩
                case measure => first | exact meas HJ2.out HJ.out | (rw [a5]; exact meas HJ2.out HJ.out)
        · have dI : decide ((0 : Int) < I) = true := decide_eq_true (by have := HE.out.hI; omega)
          by_cases hie : i1 = inn.length
          · have bi : ((i1 : Int) == (inn.length : Int)) = true := by rw [hie]; simp
            have HIe : Hid (i1 = inn.length) := hie
            clear hie
            have HPs : Hid (Pass arcs inn out B0 ag B X i1 j2) := by rw [HJ2.out]; exact Pass.skip HP.out HE.out.hX (by rw [HE.out.he]; exact rel_none (fun i' j' hm => by rcases hm.1 with ⟨h, _⟩ | ⟨_, h, _⟩ <;> first | exact hI0 h | (rw [HIe.out, List.getElem?_eq_none (Nat.le_refl _)] at h; cases h)))
            go_wp2
            repeat (go_quiet (fail); go_wp2)
            go_roundw
            case rel => exact ⟨ag, B, j2, rfl, by first | rfl | go_num, HJ.out, by first | exact hst | exact hst.drewN _, hbox, HV.out, HPs.out⟩
            case measure => first | exact meas HJ2.out HJ.out | (rw [a5]; exact meas HJ2.out HJ.out)
          · have hil2 : i1 < inn.length := by have := HE.out.hi; omega
            obtain ⟨bn, on, rfl, hbn, cn1⟩ := HE.out.li.at hst hil2
            have bi := ne_beq hil2
            obtain ⟨ij, hij⟩ : ∃ v, inn[i1] = v := ⟨_, rfl⟩
            rw [hij] at cn1
            have HIJ : Hid (inn[i1]? = some ij) := by rw [List.getElem?_eq_getElem hil2, hij]; trivial
            clear hij hie
            obtain ⟨i2, ei2, a6⟩ := wrap_up (n := i1) (by have := HE.out.hi; have := HE.out.hn; omega)
            have HI2 : Hid (i2 = i1 + 1) := ei2
            clear ei2
            by_cases hIm : ij = I
            · subst hIm
              have bi2 : (ij != ij) = false := by simp
              by_cases hO0 : O = 0
              · subst hO0
                have hmv : Wk.Move inn out true ((f : Int), (t : Int), ij, 0, (x : Int)) i1 j1 i2 j1 := ⟨Or.inr ⟨(show (0 : Int) < ij by have := HE.out.hI; omega), HIJ.out, HI2.out⟩, Or.inl ⟨Or.inl rfl, rfl⟩⟩
                have hbd := hmv.bd HE.out.hi HJL.out
                obtain ⟨Q1, Q3, Q2, QJ, n1, n2, n3, n4, eQ⟩ := placed HE.out.hS HE.out.hn HE.out.hk HE.out.ht hbd.1 hbd.2
                have hQN : QJ < N := by rw [eQ]; exact HE.out.lt HE.out.ht hbd.1 hbd.2
                have cQ := hst.cell QJ hQN
                have fQ := hst.frozen QJ
                obtain ⟨qv, hqv⟩ : ∃ v, val B QJ = v := ⟨_, rfl⟩
                rw [hqv] at cQ
                have HQ : Hid (val B QJ = qv) := hqv
                have HQI : Hid (QJ = idx (inn.length + 1) (cols out true) t i2 j1) := eQ
                have HM : Hid (Wk.Move inn out true ((f : Int), (t : Int), ij, 0, (x : Int)) i1 j1 i2 j1) := hmv
                clear hqv hmv hbd eQ
                by_cases hbet : pv + x < qv
                · have dB : decide ((pw : Int) < (qv : Int)) = true := decide_eq_true (by have := HPW.out; omega)
                  have HB : Hid (pv + x < qv) := hbet
                  have nb : (pw : Int) < (qv : Int) := of_decide_eq_true dB
                  clear hbet dB
                  go_wp2
                  repeat (go_quiet (fail); go_wp2)
                  go_roundw
                  case rel =>
                    have hstp := HV.out.step X HE.out.hX f t i1 j1 i2 j1 x HE.out.hf HE.out.ht HE.out.hi HJL.out (by rw [HE.out.he]) (by rw [HE.out.he]) (by rw [HE.out.he]) HE.out.hx (by rw [HE.out.he]; exact HM.out) (by rw [← HEI.out, HPV.out]; exact HPD.out) (by rw [hst.2.2]; have := HE.out.hNb; omega) (by rw [← HEI.out, ← HQI.out, HPV.out, HQ.out]; exact HB.out)
                    rw [← HEI.out, ← HQI.out, HPV.out] at hstp
                    first
                      | (have hss := hst.storeI QJ (pv + x) (pw : Int) (by rw [HPW.out]) HG.out; exact ⟨true, B.set QJ (pv + x), j2, rfl, by first | rfl | go_num, HJ.out, hss.1, by rw [hss.2.block _ hbs (by intro h; cases h; exact absurd HE.out.hG (Nat.lt_irrefl _))]; exact hbox, hstp.1, Pass.took HP.out hstp.2⟩)
                      | exact ⟨true, B.set QJ (pv + x), j2, rfl, by first | rfl | go_num, HJ.out, ((hst.drewN _).storeI QJ (pv + x) (pw : Int) (by rw [HPW.out]) HG.out).1, by rw [((hst.drewN _).storeI QJ (pv + x) (pw : Int) (by rw [HPW.out]) HG.out).2.block _ hbs (by intro h; cases h; exact absurd HE.out.hG (Nat.lt_irrefl _))]; exact hbox, hstp.1, Pass.took HP.out hstp.2⟩
                  case measure => first | exact meas HJ2.out HJ.out | (rw [a5]; exact meas HJ2.out HJ.out)
                · have dB : decide ((pw : Int) < (qv : Int)) = false := decide_eq_false (by have := HPW.out; omega)
                  have HPs : Hid (Pass arcs inn out B0 ag B X i1 j2) := by rw [HJ2.out]; exact Pass.skip HP.out HE.out.hX (by rw [HE.out.he]; exact rel_kept rfl rfl rfl HM.out (by rw [← HEI.out, ← HQI.out, HPV.out, HQ.out]; exact hbet))
                  have nb : ¬ ((pw : Int) < (qv : Int)) := of_decide_eq_false dB
                  have nb2 : (qv : Int) ≤ (pw : Int) := Int.not_lt.1 nb
                  clear hbet dB
                  go_wp2
                  repeat (go_quiet (fail); go_wp2)
                  go_roundw
                  case rel => exact ⟨ag, B, j2, rfl, by first | rfl | go_num, HJ.out, by first | exact hst | exact hst.drewN _, hbox, HV.out, HPs.out⟩
                  case measure => first | exact meas HJ2.out HJ.out | (rw [a5]; exact meas HJ2.out HJ.out)
              · have dO : decide ((0 : Int) < O) = true := decide_eq_true (by have := HE.out.hO; omega)
                by_cases hje : j1 = out.length
                · have bj : ((j1 : Int) == (out.length : Int)) = true := by rw [hje]; simp
                  have HJe : Hid (j1 = out.length) := hje
                  clear hje
                  have HPs : Hid (Pass arcs inn out B0 ag B X i1 j2) := by rw [HJ2.out]; exact Pass.skip HP.out HE.out.hX (by rw [HE.out.he]; exact rel_none (fun i' j' hm => by rcases hm.2 with ⟨h | h, _⟩ | ⟨_, _, h, _⟩ <;> first | exact hO0 h | cases h | (rw [HJe.out, List.getElem?_eq_none (Nat.le_refl _)] at h; cases h)))
                  go_wp2
                  repeat (go_quiet (fail); go_wp2)
                  go_roundw
                  case rel => exact ⟨ag, B, j2, rfl, by first | rfl | go_num, HJ.out, by first | exact hst | exact hst.drewN _, hbox, HV.out, HPs.out⟩
                  case measure => first | exact meas HJ2.out HJ.out | (rw [a5]; exact meas HJ2.out HJ.out)
                · have hjl2 : j1 < out.length := by have := HJL.out; have e : cols out true = out.length + 1 := rfl; omega
                  obtain ⟨bo, oo, rfl, hbo, co1⟩ := HE.out.lo.at hst hjl2
                  have bj := ne_beq hjl2
                  obtain ⟨oj, hoj⟩ : ∃ v, out[j1] = v := ⟨_, rfl⟩
                  rw [hoj] at co1
                  have HOJ : Hid (out[j1]? = some oj) := by rw [List.getElem?_eq_getElem hjl2, hoj]; trivial
                  clear hoj hje
                  by_cases hOm : oj = O
                  · subst hOm
                    have bo2 : (oj != oj) = false := by simp
                    have hmv : Wk.Move inn out true ((f : Int), (t : Int), ij, oj, (x : Int)) i1 j1 i2 j2 := ⟨Or.inr ⟨(show (0 : Int) < ij by have := HE.out.hI; omega), HIJ.out, HI2.out⟩, Or.inr ⟨(show (0 : Int) < oj by have := HE.out.hO; omega), rfl, HOJ.out, HJ2.out⟩⟩
                    have hbd := hmv.bd HE.out.hi HJL.out
                    obtain ⟨Q1, Q3, Q2, QJ, n1, n2, n3, n4, eQ⟩ := placed HE.out.hS HE.out.hn HE.out.hk HE.out.ht hbd.1 hbd.2
                    have hQN : QJ < N := by rw [eQ]; exact HE.out.lt HE.out.ht hbd.1 hbd.2
                    have cQ := hst.cell QJ hQN
                    have fQ := hst.frozen QJ
                    obtain ⟨qv, hqv⟩ : ∃ v, val B QJ = v := ⟨_, rfl⟩
                    rw [hqv] at cQ
                    have HQ : Hid (val B QJ = qv) := hqv
                    have HQI : Hid (QJ = idx (inn.length + 1) (cols out true) t i2 j2) := eQ
                    have HM : Hid (Wk.Move inn out true ((f : Int), (t : Int), ij, oj, (x : Int)) i1 j1 i2 j2) := hmv
                    clear hqv hmv hbd eQ
                    by_cases hbet : pv + x < qv
                    · have dB : decide ((pw : Int) < (qv : Int)) = true := decide_eq_true (by have := HPW.out; omega)
                      have HB : Hid (pv + x < qv) := hbet
                      have nb : (pw : Int) < (qv : Int) := of_decide_eq_true dB
                      clear hbet dB
                      go_wp2
                      repeat (go_quiet (fail); go_wp2)
                      go_roundw
                      case rel =>
                        have hstp := HV.out.step X HE.out.hX f t i1 j1 i2 j2 x HE.out.hf HE.out.ht HE.out.hi HJL.out (by rw [HE.out.he]) (by rw [HE.out.he]) (by rw [HE.out.he]) HE.out.hx (by rw [HE.out.he]; exact HM.out) (by rw [← HEI.out, HPV.out]; exact HPD.out) (by rw [hst.2.2]; have := HE.out.hNb; omega) (by rw [← HEI.out, ← HQI.out, HPV.out, HQ.out]; exact HB.out)
                        rw [← HEI.out, ← HQI.out, HPV.out] at hstp
                        first
                          | (have hss := hst.storeI QJ (pv + x) (pw : Int) (by rw [HPW.out]) HG.out; exact ⟨true, B.set QJ (pv + x), j2, rfl, by first | rfl | go_num, HJ.out, hss.1, by rw [hss.2.block _ hbs (by intro h; cases h; exact absurd HE.out.hG (Nat.lt_irrefl _))]; exact hbox, hstp.1, Pass.took HP.out hstp.2⟩)
                          | exact ⟨true, B.set QJ (pv + x), j2, rfl, by first | rfl | go_num, HJ.out, ((hst.drewN _).storeI QJ (pv + x) (pw : Int) (by rw [HPW.out]) HG.out).1, by rw [((hst.drewN _).storeI QJ (pv + x) (pw : Int) (by rw [HPW.out]) HG.out).2.block _ hbs (by intro h; cases h; exact absurd HE.out.hG (Nat.lt_irrefl _))]; exact hbox, hstp.1, Pass.took HP.out hstp.2⟩
                      case measure => first | exact meas HJ2.out HJ.out | (rw [a5]; exact meas HJ2.out HJ.out)
                    · have dB : decide ((pw : Int) < (qv : Int)) = false := decide_eq_false (by have := HPW.out; omega)
                      have HPs : Hid (Pass arcs inn out B0 ag B X i1 j2) := by rw [HJ2.out]; exact Pass.skip HP.out HE.out.hX (by rw [HE.out.he]; exact rel_kept rfl rfl rfl HM.out (by rw [← HEI.out, ← HQI.out, HPV.out, HQ.out]; exact hbet))
                      have nb : ¬ ((pw : Int) < (qv : Int)) := of_decide_eq_false dB
                      have nb2 : (qv : Int) ≤ (pw : Int) := Int.not_lt.1 nb
                      clear hbet dB
                      go_wp2
                      repeat (go_quiet (fail); go_wp2)
                      go_roundw
                      case rel => exact ⟨ag, B, j2, rfl, by first | rfl | go_num, HJ.out, by first | exact hst | exact hst.drewN _, hbox, HV.out, HPs.out⟩
                      case measure => first | exact meas HJ2.out HJ.out | (rw [a5]; exact meas HJ2.out HJ.out)
                  · have bo2 : (oj != O) = true := by simpa using hOm
                    have HPs : Hid (Pass arcs inn out B0 ag B X i1 j2) := by rw [HJ2.out]; exact Pass.skip HP.out HE.out.hX (by rw [HE.out.he]; exact rel_none (fun i' j' hm => by rcases hm.2 with ⟨h | h, _⟩ | ⟨_, _, h, _⟩ <;> first | exact hO0 h | cases h | (rw [HOJ.out] at h; exact hOm (by simpa using h))))
                    go_wp2
                    repeat (go_quiet (fail); go_wp2)
                    go_roundw
                    case rel => exact ⟨ag, B, j2, rfl, by first | rfl | go_num, HJ.out, by first | exact hst | exact hst.drewN _, hbox, HV.out, HPs.out⟩
                    case measure => first | exact meas HJ2.out HJ.out | (rw [a5]; exact meas HJ2.out HJ.out)
            · have bi2 : (ij != I) = true := by simpa using hIm
              have HPs : Hid (Pass arcs inn out B0 ag B X i1 j2) := by rw [HJ2.out]; exact Pass.skip HP.out HE.out.hX (by rw [HE.out.he]; exact rel_none (fun i' j' hm => by rcases hm.1 with ⟨h, _⟩ | ⟨_, h, _⟩ <;> first | exact hI0 h | (rw [HIJ.out] at h; exact hIm (by simpa using h))))
              go_wp2
              repeat (go_quiet (fail); go_wp2)
              go_roundw
              case rel => exact ⟨ag, B, j2, rfl, by first | rfl | go_num, HJ.out, by first | exact hst | exact hst.drewN _, hbox, HV.out, HPs.out⟩
              case measure => first | exact meas HJ2.out HJ.out | (rw [a5]; exact meas HJ2.out HJ.out)
    · have dj : decide ((j1 : Int) < (out.length : Int) + 1) = false := decide_eq_false (by omega)
      have e : j1 = cols out true := by show j1 = out.length + 1; omega
      have HPe : Hid (Pass arcs inn out B0 ag B X i1 (cols out true)) := e ▸ HP.out
      have HJe : Hid (j1 = out.length + 1) := e
      clear hjl e hj1
      go_wp2
      have e1 := HJe.out
      subst e1
      exact HX.out ag B wr _ _ _ _ _ _ _ _ _ _ _ _ _ _ _ _ _ _ _ _ _ _ _ _ _ _ _ _ _ _ _ _ _ _ _ _ _ _ _ _ _ _ _ _ _ _ _ _ _ _ _ _ _ _ _ _ _ _ _ _ _ _ _ _ _ _ _ _ _ _ _ _ _ _ _ _ _ _ _ _ _ _ _ _ _ _ _ _ _ _ _ hst hbox HV.out HPe.out
end Go.Proofs.YtfjocafepigijaaDoor.CR
