/- A region of the law SpeechLambek that puts a list together and proves, whatever comes first. Condition: at most some millions of parts. -/
import Derived.Test.YtbmgkgoghgdbhaaXb
import Derived.Deep.RegionHeld3
namespace Go.Proofs.Ytbmgkgoghgdbhaa.Te
open Go.RowKit

def o8_19_0 : Oper := { dst := some 150, op := Op.load 24 (Operand.tmp 8), type := 24, pos := "speech.go:132", after := #[], guard := none }
def o8_19_1 : Oper := { dst := some 151, op := Op.buildSlice 22 1 #[(0, Operand.tmp 150)], type := 22, pos := "speech.go:132", after := #[{ on := 0, ground := Ground.data }], guard := none }
def o8_19_2 : Oper := { dst := some 152, op := Op.move (Operand.tmp 1), type := 22, pos := "speech.go:132", after := #[], guard := none }
def o8_19_3 : Oper := { dst := some 153, op := Op.call { callee := Callee.builtin Builtin.append, args := #[Operand.tmp 151, Operand.tmp 152], argTypes := #[22, 22] }, type := 22, pos := "speech.go:132", after := #[{ on := 1, ground := Ground.data }, { on := 2, ground := Ground.data }], guard := none }
def o8_19_4 : Oper := { dst := some 154, op := Op.load 24 (Operand.tmp 9), type := 24, pos := "speech.go:132", after := #[], guard := none }
def o8_19_5 : Oper := { dst := some 155, op := Op.call { callee := Callee.value (Operand.func 20), args := #[Operand.tmp 153, Operand.tmp 154], argTypes := #[22, 24] }, type := 42, pos := "speech.go:132", after := #[{ on := 3, ground := Ground.data }, { on := 4, ground := Ground.data }, { on := 3, ground := Ground.chain }], guard := none }
def o8_19_6 : Oper := { dst := some 149, op := Op.move (Operand.tmp 155), type := 42, pos := "speech.go:132", after := #[{ on := 5, ground := Ground.data }], guard := none }
def o8_19_7 : Oper := { dst := some 156, op := Op.extract (Operand.tmp 149) 0, type := 37, pos := "speech.go:132", after := #[{ on := 6, ground := Ground.data }], guard := none }
def o8_19_8 : Oper := { dst := some 157, op := Op.extract (Operand.tmp 149) 1, type := 4, pos := "speech.go:132", after := #[{ on := 6, ground := Ground.data }], guard := none }
def o8_19_9 : Oper := { dst := some 158, op := Op.extract (Operand.tmp 149) 2, type := 25, pos := "speech.go:132", after := #[{ on := 6, ground := Ground.data }, { on := 10, ground := Ground.gcOnly Departure.lateStores }], guard := none }
def o8_19_10 : Oper := { dst := some 24, op := Op.assign (Operand.tmp 157), type := 4, pos := "speech.go:132", after := #[{ on := 8, ground := Ground.data }, { on := 5, ground := Ground.chain }, { on := 0, ground := Ground.phase }, { on := 1, ground := Ground.phase }, { on := 2, ground := Ground.phase }, { on := 3, ground := Ground.phase }, { on := 4, ground := Ground.phase }, { on := 5, ground := Ground.phase }, { on := 6, ground := Ground.phase }, { on := 7, ground := Ground.phase }, { on := 8, ground := Ground.phase }, { on := 9, ground := Ground.textOnly Departure.lateStores }], guard := none }
def o8_19_11 : Oper := { dst := some 16, op := Op.assign (Operand.tmp 158), type := 25, pos := "speech.go:132", after := #[{ on := 9, ground := Ground.data }, { on := 10, ground := Ground.chain }, { on := 0, ground := Ground.phase }, { on := 1, ground := Ground.phase }, { on := 2, ground := Ground.phase }, { on := 3, ground := Ground.phase }, { on := 4, ground := Ground.phase }, { on := 5, ground := Ground.phase }, { on := 6, ground := Ground.phase }, { on := 7, ground := Ground.phase }, { on := 8, ground := Ground.phase }, { on := 9, ground := Ground.phase }, { on := 10, ground := Ground.phase }], guard := none }
set_option maxRecDepth 100000 in
set_option maxHeartbeats 16000000 in
theorem o8r19 {d dz : Nat} {wq : World} {Q : Exit → Act → World → Prop} {D : List Ty} {aD : Option Addr} {cD : Nat} (hD : TyAt wq (d + 1) ⟨0, 0, D⟩ aD cD) (nD : D.length ≤ 10000000) {x : Ty} {ax : Option Addr} {cx : Nat} (hx : TyAt wq d x ax cx) {z : Ty} {az : Option Addr} {cz : Nat} (hz : TyAt wq dz z az cz) {bX bZ : Nat}
    (x1 : wq.heap[bX]? = some (.cells #[.int .i64 x.kind, .int .i64 x.n, .slice ax x.kids.length cx] 24 (0, 0))) (x2 : wq.heap[bZ]? = some (.cells #[.int .i64 z.kind, .int .i64 z.n, .slice az z.kids.length cz] 24 (0, 0))) {fl : List Ty} (hfl : [x] ++ D = fl) {e2 : Int} (he2 : cseq fl z = e2) {r2 : Bool} (h2 : r2 = true ↔ cseq fl z = 0 ∧ E fl z) {u0 u2 u3 u4 u5 u6 u7 u10 u11 u12 u13 u14 u15 u16 u17 u18 u19 u20 u21 u22 u23 u24 u25 u26 u27 u28 u29 u30 u31 u32 u33 u34 u35 u36 u37 u38 u39 u40 u41 u42 u43 u44 u45 u46 u47 u48 u49 u50 u51 u52 u53 u54 u55 u56 u57 u58 u59 u60 u61 u62 u63 u64 u65 u66 u67 u68 u69 u70 u71 u72 u73 u74 u75 u76 u77 u78 u79 u80 u81 u82 u83 u84 u85 u86 u87 u88 u89 u90 u91 u92 u93 u94 u95 u96 u97 u98 u99 u100 u101 u102 u103 u104 u105 u106 u107 u108 u109 u110 u111 u112 u113 u114 u115 u116 u117 u118 u119 u120 u121 u122 u123 u124 u125 u126 u127 u128 u129 u130 u131 u132 u133 u134 u135 u136 u137 u138 u139 u140 u141 u142 u143 u144 u145 u146 u147 u148 u149 u150 u151 u152 u153 u154 u155 u156 u157 u158 u159 u160 u161 u162 u163 u164 u165 u166 u167 u168 u169 u170 u171 u172 u173 u174 u175 u176 u177 u178 u179 u180 u181 u182 u183 u184 u185 u186 u187 u188 u189 u190 u191 u192 u193 u194 u195 u196 : Value}
    (hQ : ∀ (v149 v150 v151 v152 v153 v154 v155 v156 v157 v158 : Value) (wx : World), Below wq.heap.size wq wx → Q .normal { tmps := #[u0, .slice aD D.length cD, u2, u3, u4, u5, u6, u7, .pointer (some ⟨bX, 0, none⟩), .pointer (some ⟨bZ, 0, none⟩), u10, u11, u12, u13, u14, u15, .int .i64 e2, u17, u18, u19, u20, u21, u22, u23, .bool r2, u25, u26, u27, u28, u29, u30, u31, u32, u33, u34, u35, u36, u37, u38, u39, u40, u41, u42, u43, u44, u45, u46, u47, u48, u49, u50, u51, u52, u53, u54, u55, u56, u57, u58, u59, u60, u61, u62, u63, u64, u65, u66, u67, u68, u69, u70, u71, u72, u73, u74, u75, u76, u77, u78, u79, u80, u81, u82, u83, u84, u85, u86, u87, u88, u89, u90, u91, u92, u93, u94, u95, u96, u97, u98, u99, u100, u101, u102, u103, u104, u105, u106, u107, u108, u109, u110, u111, u112, u113, u114, u115, u116, u117, u118, u119, u120, u121, u122, u123, u124, u125, u126, u127, u128, u129, u130, u131, u132, u133, u134, u135, u136, u137, u138, u139, u140, u141, u142, u143, u144, u145, u146, u147, u148, v149, v150, v151, v152, v153, v154, v155, v156, v157, v158, u159, u160, u161, u162, u163, u164, u165, u166, u167, u168, u169, u170, u171, u172, u173, u174, u175, u176, u177, u178, u179, u180, u181, u182, u183, u184, u185, u186, u187, u188, u189, u190, u191, u192, u193, u194, u195, u196], defers := [] } wx) :
    (Code.region 19 #[o8_19_0, o8_19_1, o8_19_2, o8_19_3, o8_19_4, o8_19_5, o8_19_6, o8_19_7, o8_19_8, o8_19_9, o8_19_10, o8_19_11] true).wp Try.prog Q { tmps := #[u0, .slice aD D.length cD, u2, u3, u4, u5, u6, u7, .pointer (some ⟨bX, 0, none⟩), .pointer (some ⟨bZ, 0, none⟩), u10, u11, u12, u13, u14, u15, u16, u17, u18, u19, u20, u21, u22, u23, u24, u25, u26, u27, u28, u29, u30, u31, u32, u33, u34, u35, u36, u37, u38, u39, u40, u41, u42, u43, u44, u45, u46, u47, u48, u49, u50, u51, u52, u53, u54, u55, u56, u57, u58, u59, u60, u61, u62, u63, u64, u65, u66, u67, u68, u69, u70, u71, u72, u73, u74, u75, u76, u77, u78, u79, u80, u81, u82, u83, u84, u85, u86, u87, u88, u89, u90, u91, u92, u93, u94, u95, u96, u97, u98, u99, u100, u101, u102, u103, u104, u105, u106, u107, u108, u109, u110, u111, u112, u113, u114, u115, u116, u117, u118, u119, u120, u121, u122, u123, u124, u125, u126, u127, u128, u129, u130, u131, u132, u133, u134, u135, u136, u137, u138, u139, u140, u141, u142, u143, u144, u145, u146, u147, u148, u149, u150, u151, u152, u153, u154, u155, u156, u157, u158, u159, u160, u161, u162, u163, u164, u165, u166, u167, u168, u169, u170, u171, u172, u173, u174, u175, u176, u177, u178, u179, u180, u181, u182, u183, u184, u185, u186, u187, u188, u189, u190, u191, u192, u193, u194, u195, u196], defers := [] } wq := by
  have hX : Hid (TyAt wq d x ax cx) := hx
  have hZ : Hid (TyAt wq dz z az cz) := hz
  have HJN : Hid ([x] ++ D = fl) := hfl
  have HE2 : Hid (cseq fl z = e2) := he2
  have H2 : Hid (r2 = true ↔ cseq fl z = 0 ∧ E fl z) := h2
  have hfn : fl.length ≤ 100000000 := by rw [← hfl]; simp; omega
  obtain ⟨i24, hi24, hz240, hz241, hz242⟩ := info_parts info24
  have hbX := lt_of_get x1
  have hbZ := lt_of_get x2
  have cX0 := cell_of_row _ _ 0 _ _ _ x1
  have cZ0 := cell_of_row _ _ 0 _ _ _ x2
  have cX1 := cell_of_row _ _ 1 _ _ _ x1
  have cZ1 := cell_of_row _ _ 1 _ _ _ x2
  have cX2 := cell_of_row _ _ 2 _ _ _ x1
  have cZ2 := cell_of_row _ _ 2 _ _ _ x2
  obtain ⟨ysD, hsD_⟩ := src_of hD.free
  have hsD : Hid (Src (fun _ => True) wq d D aD ysD) := hsD_
  clear hD hsD_
  clear hx hz hfl he2 h2 x1 x2
  refine wp_region_noPanic ?_
  have HCE : Hid _ := fun (W : World) (hSw : Below wq.heap.size wq W) => (And.intro ((hSw.cell (p := ⟨bX, 0, none⟩) hbX).trans cX0) (And.intro ((hSw.cell (p := ⟨bX, 1, none⟩) hbX).trans cX1) (And.intro ((hSw.cell (p := ⟨bX, 2, none⟩) hbX).trans cX2) (And.intro ((hSw.cell (p := ⟨bZ, 0, none⟩) hbZ).trans cZ0) (And.intro ((hSw.cell (p := ⟨bZ, 1, none⟩) hbZ).trans cZ1) ((hSw.cell (p := ⟨bZ, 2, none⟩) hbZ).trans cZ2))))))
  refine wp_region_held_drew (S := fun W => Below wq.heap.size wq W) (by kernel_rfl) (by exact below_drewN (Below.refl _ _) 1) (fun hHeld => ?_)
  have hL0 : Lk wq d x ax cx none none none wq.drew := Lk.start hHeld
  generalize hV : wq.drew = V0 at *
  clear hV
  refine tk (v := ?_) 0 o8_19_0 (by rfl) ?_ ?_
  case refine_2 => unfold o8_19_0; intro w hSw; obtain ⟨i0, i1, i2, j0, j1, j2⟩ := HCE.out _ hSw; go_simp; (try with_reducible rfl)
  simp only [o8_19_0, Act.put, List.setIfInBounds_toArray, List.set_cons_zero, List.set_cons_succ]
  refine tk (v := ?_) 2 o8_19_2 (by rfl) ?_ ?_
  case refine_2 => unfold o8_19_2; intro w hSw; obtain ⟨i0, i1, i2, j0, j1, j2⟩ := HCE.out _ hSw; go_simp; (try with_reducible rfl)
  simp only [o8_19_2, Act.put, List.setIfInBounds_toArray, List.set_cons_zero, List.set_cons_succ]
  refine tk (v := ?_) 4 o8_19_4 (by rfl) ?_ ?_
  case refine_2 => unfold o8_19_4; intro w hSw; obtain ⟨i0, i1, i2, j0, j1, j2⟩ := HCE.out _ hSw; go_simp; (try with_reducible rfl)
  simp only [o8_19_4, Act.put, List.setIfInBounds_toArray, List.set_cons_zero, List.set_cons_succ]
  refine wpAnyH_ready (rs := [1]) (by kernel_rfl) (by simp) ?_
  refine (AllReadyH.cons (o := o8_19_1) rfl (fun K hK => ?_) AllReadyH.nil)
  unfold o8_19_1
  go_simp
  have hL1 := hL0.onerow hX.out
  refine hK.out _ _ ?_ (fun hHeld => ?_)
  · exact hL1.bel
  clear hK K
  try simp only [Act.put, List.setIfInBounds_toArray, List.set_cons_zero, List.set_cons_succ]
  generalize hV : V0.alloc (.cells #[.int .i64 x.kind, .int .i64 x.n, .slice ax x.kids.length cx] 24) = V1 at *
  clear hV
  refine wpAnyH_ready (rs := [3]) (by kernel_rfl) (by simp) ?_
  refine (AllReadyH.cons (o := o8_19_3) rfl (fun K hK => ?_) AllReadyH.nil)
  unfold o8_19_3
  obtain ⟨xs0, ho0, hr0⟩ := hL1.fr _ _ rfl
  refine step_src wq rfl (.tmp 151) (.tmp 152) rfl wq.heap.size _ _ xs0 rfl ho0 cD rfl hsD.out hL1.bel (by simp; omega) hL1.bel.size ?_
  intro v0_ V2 ho_ hg_ hat_
  have hL2 := hL1.app ho0 hr0 hsD.out.2.2.1 ho_ hg_ hat_
  clear ho_ hg_ hat_ ho0 hr0
  rw [HJN.out] at hL2
  obtain ⟨a7, c7, rfl, _, _⟩ := hL2.list (by omega)
  refine hK.out _ _ ?_ (fun hHeld => ?_)
  · exact hL2.bel
  clear hK K
  try simp only [Act.put, List.setIfInBounds_toArray, List.set_cons_zero, List.set_cons_succ]
  refine wpAnyH_ready (rs := [5]) (by kernel_rfl) (by simp) ?_
  refine (AllReadyH.cons (o := o8_19_5) rfl (fun K hK => ?_) AllReadyH.nil)
  unfold o8_19_5
  obtain ⟨a9, c9, he9, hr9, hT9⟩ := hL2.list (by omega)
  simp only [Value.slice.injEq, true_and] at he9
  obtain ⟨rfl, rfl⟩ := he9
  have KQ := Prove_any fl a7 c7 z az cz V2 r2 hT9 hr9 (hZ.out.below hL2.bel) H2.out
  rw [HE2.out] at KQ
  unfold vty at KQ
  go_simp
  (with_reducible refine KQ.mono ?_)
  clear KQ hT9 hr9
  rintro e9 V3 ⟨p9, x9, rfl, hb9, _, _⟩
  dsimp only
  unfold vpf
  have hL3 := hL2.below hb9
  refine hK.out _ _ ?_ (fun hHeld => ?_)
  · exact hL3.bel
  clear hK K
  try simp only [Act.put, List.setIfInBounds_toArray, List.set_cons_zero, List.set_cons_succ]
  refine tk (v := ?_) 6 o8_19_6 (by rfl) ?_ ?_
  case refine_2 => unfold o8_19_6; intro w hSw; obtain ⟨i0, i1, i2, j0, j1, j2⟩ := HCE.out _ hSw; go_simp; (try with_reducible rfl)
  simp only [o8_19_6, Act.put, List.setIfInBounds_toArray, List.set_cons_zero, List.set_cons_succ]
  refine tk (v := ?_) 7 o8_19_7 (by rfl) ?_ ?_
  case refine_2 => unfold o8_19_7; intro w hSw; obtain ⟨i0, i1, i2, j0, j1, j2⟩ := HCE.out _ hSw; go_simp; (try with_reducible rfl)
  simp only [o8_19_7, Act.put, List.setIfInBounds_toArray, List.set_cons_zero, List.set_cons_succ]
  refine tk (v := ?_) 8 o8_19_8 (by rfl) ?_ ?_
  case refine_2 => unfold o8_19_8; intro w hSw; obtain ⟨i0, i1, i2, j0, j1, j2⟩ := HCE.out _ hSw; go_simp; (try with_reducible rfl)
  simp only [o8_19_8, Act.put, List.setIfInBounds_toArray, List.set_cons_zero, List.set_cons_succ]
  refine tk (v := ?_) 9 o8_19_9 (by rfl) ?_ ?_
  case refine_2 => unfold o8_19_9; intro w hSw; obtain ⟨i0, i1, i2, j0, j1, j2⟩ := HCE.out _ hSw; go_simp; (try with_reducible rfl)
  simp only [o8_19_9, Act.put, List.setIfInBounds_toArray, List.set_cons_zero, List.set_cons_succ]
  refine tk (v := ?_) 10 o8_19_10 (by rfl) ?_ ?_
  case refine_2 => unfold o8_19_10; intro w hSw; obtain ⟨i0, i1, i2, j0, j1, j2⟩ := HCE.out _ hSw; go_simp; (try with_reducible rfl)
  simp only [o8_19_10, Act.put, List.setIfInBounds_toArray, List.set_cons_zero, List.set_cons_succ]
  refine tk (v := ?_) 11 o8_19_11 (by rfl) ?_ ?_
  case refine_2 => unfold o8_19_11; intro w hSw; obtain ⟨i0, i1, i2, j0, j1, j2⟩ := HCE.out _ hSw; go_simp; (try with_reducible rfl)
  simp only [o8_19_11, Act.put, List.setIfInBounds_toArray, List.set_cons_zero, List.set_cons_succ]
  refine wpAnyH_done (by kernel_rfl) ?_ _
  exact NoPanic.normal (hQ _ _ _ _ _ _ _ _ _ _ _ hL3.bel)
end Go.Proofs.Ytbmgkgoghgdbhaa.Te
