/- A region of the law SpeechLambek that puts a list together and proves, whatever comes first. Condition: at most some millions of parts. -/
import Derived.Test.YtbmgkgoghgdbhaaXb
import Derived.Deep.RegionHeld3
namespace Go.Proofs.Ytbmgkgoghgdbhaa.Te
open Go.RowKit

def o8_15_0 : Oper := { dst := some 118, op := Op.buildSlice 22 0 #[], type := 22, pos := "speech.go:127", after := #[], guard := none }
def o8_15_1 : Oper := { dst := some 119, op := Op.move (Operand.tmp 1), type := 22, pos := "speech.go:127", after := #[], guard := none }
def o8_15_2 : Oper := { dst := some 120, op := Op.call { callee := Callee.builtin Builtin.append, args := #[Operand.tmp 118, Operand.tmp 119], argTypes := #[22, 22] }, type := 22, pos := "speech.go:127", after := #[{ on := 0, ground := Ground.data }, { on := 1, ground := Ground.data }], guard := none }
def o8_15_3 : Oper := { dst := some 121, op := Op.load 24 (Operand.tmp 8), type := 24, pos := "speech.go:127", after := #[], guard := none }
def o8_15_4 : Oper := { dst := some 122, op := Op.buildSlice 22 1 #[(0, Operand.tmp 121)], type := 22, pos := "speech.go:127", after := #[{ on := 3, ground := Ground.data }], guard := none }
def o8_15_5 : Oper := { dst := some 123, op := Op.call { callee := Callee.builtin Builtin.append, args := #[Operand.tmp 120, Operand.tmp 122], argTypes := #[22, 22] }, type := 22, pos := "speech.go:127", after := #[{ on := 2, ground := Ground.data }, { on := 4, ground := Ground.data }, { on := 2, ground := Ground.chain }], guard := none }
def o8_15_6 : Oper := { dst := some 124, op := Op.load 24 (Operand.tmp 9), type := 24, pos := "speech.go:127", after := #[], guard := none }
def o8_15_7 : Oper := { dst := some 125, op := Op.call { callee := Callee.value (Operand.func 20), args := #[Operand.tmp 123, Operand.tmp 124], argTypes := #[22, 24] }, type := 42, pos := "speech.go:127", after := #[{ on := 5, ground := Ground.data }, { on := 6, ground := Ground.data }, { on := 5, ground := Ground.chain }], guard := none }
def o8_15_8 : Oper := { dst := some 117, op := Op.move (Operand.tmp 125), type := 42, pos := "speech.go:127", after := #[{ on := 7, ground := Ground.data }], guard := none }
def o8_15_9 : Oper := { dst := some 126, op := Op.extract (Operand.tmp 117) 0, type := 37, pos := "speech.go:127", after := #[{ on := 8, ground := Ground.data }], guard := none }
def o8_15_10 : Oper := { dst := some 127, op := Op.extract (Operand.tmp 117) 1, type := 4, pos := "speech.go:127", after := #[{ on := 8, ground := Ground.data }, { on := 13, ground := Ground.gcOnly Departure.lateStores }], guard := none }
def o8_15_11 : Oper := { dst := some 128, op := Op.extract (Operand.tmp 117) 2, type := 25, pos := "speech.go:127", after := #[{ on := 8, ground := Ground.data }, { on := 14, ground := Ground.gcOnly Departure.lateStores }], guard := none }
def o8_15_12 : Oper := { dst := some 23, op := Op.alloc 37, type := 0, pos := "speech.go:127", after := #[], guard := none }
def o8_15_13 : Oper := { dst := none, op := Op.store 37 (Operand.tmp 23) (Operand.tmp 126), type := 0, pos := "speech.go:127", after := #[{ on := 12, ground := Ground.data }, { on := 9, ground := Ground.data }, { on := 7, ground := Ground.chain }, { on := 0, ground := Ground.phase }, { on := 1, ground := Ground.phase }, { on := 2, ground := Ground.phase }, { on := 3, ground := Ground.phase }, { on := 4, ground := Ground.phase }, { on := 5, ground := Ground.phase }, { on := 6, ground := Ground.phase }, { on := 7, ground := Ground.phase }, { on := 8, ground := Ground.phase }, { on := 9, ground := Ground.phase }, { on := 10, ground := Ground.textOnly Departure.lateStores }, { on := 11, ground := Ground.textOnly Departure.lateStores }, { on := 12, ground := Ground.phase }], guard := none }
def o8_15_14 : Oper := { dst := some 24, op := Op.assign (Operand.tmp 127), type := 4, pos := "speech.go:127", after := #[{ on := 10, ground := Ground.data }, { on := 13, ground := Ground.chain }, { on := 0, ground := Ground.phase }, { on := 1, ground := Ground.phase }, { on := 2, ground := Ground.phase }, { on := 3, ground := Ground.phase }, { on := 4, ground := Ground.phase }, { on := 5, ground := Ground.phase }, { on := 6, ground := Ground.phase }, { on := 7, ground := Ground.phase }, { on := 8, ground := Ground.phase }, { on := 9, ground := Ground.phase }, { on := 10, ground := Ground.phase }, { on := 11, ground := Ground.textOnly Departure.lateStores }, { on := 12, ground := Ground.phase }, { on := 13, ground := Ground.phase }], guard := none }
def o8_15_15 : Oper := { dst := some 16, op := Op.assign (Operand.tmp 128), type := 25, pos := "speech.go:127", after := #[{ on := 11, ground := Ground.data }, { on := 14, ground := Ground.chain }, { on := 0, ground := Ground.phase }, { on := 1, ground := Ground.phase }, { on := 2, ground := Ground.phase }, { on := 3, ground := Ground.phase }, { on := 4, ground := Ground.phase }, { on := 5, ground := Ground.phase }, { on := 6, ground := Ground.phase }, { on := 7, ground := Ground.phase }, { on := 8, ground := Ground.phase }, { on := 9, ground := Ground.phase }, { on := 10, ground := Ground.phase }, { on := 11, ground := Ground.phase }, { on := 12, ground := Ground.phase }, { on := 13, ground := Ground.phase }, { on := 14, ground := Ground.phase }], guard := none }
set_option maxRecDepth 100000 in
set_option maxHeartbeats 16000000 in
theorem o8r15 {d dz : Nat} {wq : World} {Q : Exit → Act → World → Prop} {D : List Ty} {aD : Option Addr} {cD : Nat} (hD : TyAt wq (d + 1) ⟨0, 0, D⟩ aD cD) (nD : D.length ≤ 10000000) {x : Ty} {ax : Option Addr} {cx : Nat} (hx : TyAt wq d x ax cx) {z : Ty} {az : Option Addr} {cz : Nat} (hz : TyAt wq dz z az cz) {bX bZ : Nat}
    (x1 : wq.heap[bX]? = some (.cells #[.int .i64 x.kind, .int .i64 x.n, .slice ax x.kids.length cx] 24 (0, 0))) (x2 : wq.heap[bZ]? = some (.cells #[.int .i64 z.kind, .int .i64 z.n, .slice az z.kids.length cz] 24 (0, 0))) {fl : List Ty} (hfl : [] ++ D ++ [x] = fl) {e2 : Int} (he2 : cseq fl z = e2) {r2 : Bool} (h2 : r2 = true ↔ cseq fl z = 0 ∧ E fl z) {u0 u2 u3 u4 u5 u6 u7 u10 u11 u12 u13 u14 u15 u16 u17 u18 u19 u20 u21 u22 u23 u24 u25 u26 u27 u28 u29 u30 u31 u32 u33 u34 u35 u36 u37 u38 u39 u40 u41 u42 u43 u44 u45 u46 u47 u48 u49 u50 u51 u52 u53 u54 u55 u56 u57 u58 u59 u60 u61 u62 u63 u64 u65 u66 u67 u68 u69 u70 u71 u72 u73 u74 u75 u76 u77 u78 u79 u80 u81 u82 u83 u84 u85 u86 u87 u88 u89 u90 u91 u92 u93 u94 u95 u96 u97 u98 u99 u100 u101 u102 u103 u104 u105 u106 u107 u108 u109 u110 u111 u112 u113 u114 u115 u116 u117 u118 u119 u120 u121 u122 u123 u124 u125 u126 u127 u128 u129 u130 u131 u132 u133 u134 u135 u136 u137 u138 u139 u140 u141 u142 u143 u144 u145 u146 u147 u148 u149 u150 u151 u152 u153 u154 u155 u156 u157 u158 u159 u160 u161 u162 u163 u164 u165 u166 u167 u168 u169 u170 u171 u172 u173 u174 u175 u176 u177 u178 u179 u180 u181 u182 u183 u184 u185 u186 u187 u188 u189 u190 u191 u192 u193 u194 u195 u196 : Value}
    (hQ : ∀ (v23 v117 v118 v119 v120 v121 v122 v123 v124 v125 v126 v127 v128 : Value) (wx : World), Below wq.heap.size wq wx → Q .normal { tmps := #[u0, .slice aD D.length cD, u2, u3, u4, u5, u6, u7, .pointer (some ⟨bX, 0, none⟩), .pointer (some ⟨bZ, 0, none⟩), u10, u11, u12, u13, u14, u15, .int .i64 e2, u17, u18, u19, u20, u21, u22, v23, .bool r2, u25, u26, u27, u28, u29, u30, u31, u32, u33, u34, u35, u36, u37, u38, u39, u40, u41, u42, u43, u44, u45, u46, u47, u48, u49, u50, u51, u52, u53, u54, u55, u56, u57, u58, u59, u60, u61, u62, u63, u64, u65, u66, u67, u68, u69, u70, u71, u72, u73, u74, u75, u76, u77, u78, u79, u80, u81, u82, u83, u84, u85, u86, u87, u88, u89, u90, u91, u92, u93, u94, u95, u96, u97, u98, u99, u100, u101, u102, u103, u104, u105, u106, u107, u108, u109, u110, u111, u112, u113, u114, u115, u116, v117, v118, v119, v120, v121, v122, v123, v124, v125, v126, v127, v128, u129, u130, u131, u132, u133, u134, u135, u136, u137, u138, u139, u140, u141, u142, u143, u144, u145, u146, u147, u148, u149, u150, u151, u152, u153, u154, u155, u156, u157, u158, u159, u160, u161, u162, u163, u164, u165, u166, u167, u168, u169, u170, u171, u172, u173, u174, u175, u176, u177, u178, u179, u180, u181, u182, u183, u184, u185, u186, u187, u188, u189, u190, u191, u192, u193, u194, u195, u196], defers := [] } wx) :
    (Code.region 15 #[o8_15_0, o8_15_1, o8_15_2, o8_15_3, o8_15_4, o8_15_5, o8_15_6, o8_15_7, o8_15_8, o8_15_9, o8_15_10, o8_15_11, o8_15_12, o8_15_13, o8_15_14, o8_15_15] true).wp Try.prog Q { tmps := #[u0, .slice aD D.length cD, u2, u3, u4, u5, u6, u7, .pointer (some ⟨bX, 0, none⟩), .pointer (some ⟨bZ, 0, none⟩), u10, u11, u12, u13, u14, u15, u16, u17, u18, u19, u20, u21, u22, u23, u24, u25, u26, u27, u28, u29, u30, u31, u32, u33, u34, u35, u36, u37, u38, u39, u40, u41, u42, u43, u44, u45, u46, u47, u48, u49, u50, u51, u52, u53, u54, u55, u56, u57, u58, u59, u60, u61, u62, u63, u64, u65, u66, u67, u68, u69, u70, u71, u72, u73, u74, u75, u76, u77, u78, u79, u80, u81, u82, u83, u84, u85, u86, u87, u88, u89, u90, u91, u92, u93, u94, u95, u96, u97, u98, u99, u100, u101, u102, u103, u104, u105, u106, u107, u108, u109, u110, u111, u112, u113, u114, u115, u116, u117, u118, u119, u120, u121, u122, u123, u124, u125, u126, u127, u128, u129, u130, u131, u132, u133, u134, u135, u136, u137, u138, u139, u140, u141, u142, u143, u144, u145, u146, u147, u148, u149, u150, u151, u152, u153, u154, u155, u156, u157, u158, u159, u160, u161, u162, u163, u164, u165, u166, u167, u168, u169, u170, u171, u172, u173, u174, u175, u176, u177, u178, u179, u180, u181, u182, u183, u184, u185, u186, u187, u188, u189, u190, u191, u192, u193, u194, u195, u196], defers := [] } wq := by
  have hX : Hid (TyAt wq d x ax cx) := hx
  have hZ : Hid (TyAt wq dz z az cz) := hz
  have HJN : Hid ([] ++ D ++ [x] = fl) := hfl
  have HE2 : Hid (cseq fl z = e2) := he2
  have H2 : Hid (r2 = true ↔ cseq fl z = 0 ∧ E fl z) := h2
  have hfn : fl.length ≤ 100000000 := by rw [← hfl]; simp; omega
  obtain ⟨i24, hi24, hz240, hz241, hz242⟩ := info_parts info24
  have hbX := lt_of_get x1
  have hbZ := lt_of_get x2
  have cX0 := cell_of_row _ _ 0 _ _ _ x1
  have cZ0 := cell_of_row _ _ 0 _ _ _ x2
  have cX1 := cell_of_row _ _ 1 _ _ _ x1
  have cZ1 := cell_of_row _ _ 1 _ _ _ x2
  have cX2 := cell_of_row _ _ 2 _ _ _ x1
  have cZ2 := cell_of_row _ _ 2 _ _ _ x2
  obtain ⟨ysD, hsD_⟩ := src_of hD.free
  have hsD : Hid (Src (fun _ => True) wq d D aD ysD) := hsD_
  clear hD hsD_
  clear hx hz hfl he2 h2 x1 x2
  refine wp_region_noPanic ?_
  have HCE : Hid _ := fun (W : World) (hSw : Below wq.heap.size wq W) => (And.intro ((hSw.cell (p := ⟨bX, 0, none⟩) hbX).trans cX0) (And.intro ((hSw.cell (p := ⟨bX, 1, none⟩) hbX).trans cX1) (And.intro ((hSw.cell (p := ⟨bX, 2, none⟩) hbX).trans cX2) (And.intro ((hSw.cell (p := ⟨bZ, 0, none⟩) hbZ).trans cZ0) (And.intro ((hSw.cell (p := ⟨bZ, 1, none⟩) hbZ).trans cZ1) ((hSw.cell (p := ⟨bZ, 2, none⟩) hbZ).trans cZ2))))))
  refine wp_region_held_drew (S := fun W => Below wq.heap.size wq W) (by kernel_rfl) (by exact below_drewN (Below.refl _ _) 1) (fun hHeld => ?_)
  have hL0 : Lk wq d x ax cx none none none wq.drew := Lk.start hHeld
  generalize hV : wq.drew = V0 at *
  clear hV
  refine tk (v := ?_) 1 o8_15_1 (by rfl) ?_ ?_
  case refine_2 => unfold o8_15_1; intro w hSw; obtain ⟨i0, i1, i2, j0, j1, j2⟩ := HCE.out _ hSw; go_simp; (try with_reducible rfl)
  simp only [o8_15_1, Act.put, List.setIfInBounds_toArray, List.set_cons_zero, List.set_cons_succ]
  refine tk (v := ?_) 3 o8_15_3 (by rfl) ?_ ?_
  case refine_2 => unfold o8_15_3; intro w hSw; obtain ⟨i0, i1, i2, j0, j1, j2⟩ := HCE.out _ hSw; go_simp; (try with_reducible rfl)
  simp only [o8_15_3, Act.put, List.setIfInBounds_toArray, List.set_cons_zero, List.set_cons_succ]
  refine tk (v := ?_) 6 o8_15_6 (by rfl) ?_ ?_
  case refine_2 => unfold o8_15_6; intro w hSw; obtain ⟨i0, i1, i2, j0, j1, j2⟩ := HCE.out _ hSw; go_simp; (try with_reducible rfl)
  simp only [o8_15_6, Act.put, List.setIfInBounds_toArray, List.set_cons_zero, List.set_cons_succ]
  refine wpAnyH_ready (rs := [0, 4, 12]) (by kernel_rfl) (by simp) ?_
  refine (AllReadyH.cons (o := o8_15_0) rfl (fun K hK => ?_) (AllReadyH.cons (o := o8_15_4) rfl (fun K hK => ?_) (AllReadyH.cons (o := o8_15_12) rfl (fun K hK => ?_) AllReadyH.nil)))
  · skip
    unfold o8_15_0
    go_simp
    have hL1 := hL0.mkrow
    refine hK.out _ _ ?_ (fun hHeld => ?_)
    · exact hL1.bel
    clear hK K
    try simp only [Act.put, List.setIfInBounds_toArray, List.set_cons_zero, List.set_cons_succ]
    generalize hV : V0.alloc (.cells #[] 24) = V1 at *
    clear hV
    refine wpAnyH_ready (rs := [2, 4, 12]) (by kernel_rfl) (by simp) ?_
    refine (AllReadyH.cons (o := o8_15_2) rfl (fun K hK => ?_) (AllReadyH.cons (o := o8_15_4) rfl (fun K hK => ?_) (AllReadyH.cons (o := o8_15_12) rfl (fun K hK => ?_) AllReadyH.nil)))
    · skip
      unfold o8_15_2
      obtain ⟨xs0, ho0, hr0⟩ := hL1.fr _ _ rfl
      refine step_src wq rfl (.tmp 118) (.tmp 119) rfl wq.heap.size _ _ xs0 rfl ho0 cD rfl hsD.out hL1.bel (by simp; omega) hL1.bel.size ?_
      intro v0_ V2 ho_ hg_ hat_
      have hL2 := hL1.app ho0 hr0 hsD.out.2.2.1 ho_ hg_ hat_
      clear ho_ hg_ hat_ ho0 hr0
      refine hK.out _ _ ?_ (fun hHeld => ?_)
      · exact hL2.bel
      clear hK K
      try simp only [Act.put, List.setIfInBounds_toArray, List.set_cons_zero, List.set_cons_succ]
      refine wpAnyH_ready (rs := [4, 12]) (by kernel_rfl) (by simp) ?_
      refine (AllReadyH.cons (o := o8_15_4) rfl (fun K hK => ?_) (AllReadyH.cons (o := o8_15_12) rfl (fun K hK => ?_) AllReadyH.nil))
      · skip
        unfold o8_15_4
        go_simp
        have hL3 := hL2.mkone
        refine hK.out _ _ ?_ (fun hHeld => ?_)
        · exact hL3.bel
        clear hK K
        try simp only [Act.put, List.setIfInBounds_toArray, List.set_cons_zero, List.set_cons_succ]
        generalize hV : V2.alloc (.cells #[.int .i64 x.kind, .int .i64 x.n, .slice ax x.kids.length cx] 24) = V3 at *
        clear hV
        refine wpAnyH_ready (rs := [5, 12]) (by kernel_rfl) (by simp) ?_
        refine (AllReadyH.cons (o := o8_15_5) rfl (fun K hK => ?_) (AllReadyH.cons (o := o8_15_12) rfl (fun K hK => ?_) AllReadyH.nil))
        · skip
          unfold o8_15_5
          obtain ⟨xs1, ho1, hr1⟩ := hL3.fr _ _ rfl
          obtain ⟨_, hB1, _⟩ := hL3.fo _ rfl
          refine step_append_at rfl (.tmp 120) (.tmp 122) 22 rfl wq.heap.size 24 i24 (.agg #[.int .i64 0, .int .i64 0, .slice none 0 0]) 3 40 Try.underlying22 hi24 hz240 hz241 hz242 rfl (by decide) _ _ xs1 rfl ho1 ⟨_, 0, none⟩ 1 1 (tyc x ax cx) rfl rfl (cell_tyc hB1) (tyc_one x ax cx) (by unfold maxLen; simp; omega) (by simp; omega) hL3.bel.size ?_
          intro v1_ V4 ho_ hg_ hat_
          have hL4 := hL3.app (M := [x]) ho1 hr1 (row_tyc hX.out) ho_ hg_ hat_
          clear ho_ hg_ hat_ ho1 hr1
          rw [HJN.out] at hL4
          obtain ⟨a7, c7, rfl, _, _⟩ := hL4.list (by omega)
          refine hK.out _ _ ?_ (fun hHeld => ?_)
          · exact hL4.bel
          clear hK K
          try simp only [Act.put, List.setIfInBounds_toArray, List.set_cons_zero, List.set_cons_succ]
          refine wpAnyH_ready (rs := [7, 12]) (by kernel_rfl) (by simp) ?_
          refine (AllReadyH.cons (o := o8_15_7) rfl (fun K hK => ?_) (AllReadyH.cons (o := o8_15_12) rfl (fun K hK => ?_) AllReadyH.nil))
          · skip
            unfold o8_15_7
            obtain ⟨a9, c9, he9, hr9, hT9⟩ := hL4.list (by omega)
            simp only [Value.slice.injEq, true_and] at he9
            obtain ⟨rfl, rfl⟩ := he9
            have KQ := Prove_any fl a7 c7 z az cz V4 r2 hT9 hr9 (hZ.out.below hL4.bel) H2.out
            rw [HE2.out] at KQ
            unfold vty at KQ
            go_simp
            (with_reducible refine KQ.mono ?_)
            clear KQ hT9 hr9
            rintro e9 V5 ⟨p9, x9, rfl, hb9, _, _⟩
            dsimp only
            unfold vpf
            have hL5 := hL4.below hb9
            refine hK.out _ _ ?_ (fun hHeld => ?_)
            · exact hL5.bel
            clear hK K
            try simp only [Act.put, List.setIfInBounds_toArray, List.set_cons_zero, List.set_cons_succ]
            refine tk (v := ?_) 8 o8_15_8 (by rfl) ?_ ?_
            case refine_2 => unfold o8_15_8; intro w hSw; obtain ⟨i0, i1, i2, j0, j1, j2⟩ := HCE.out _ hSw; go_simp; (try with_reducible rfl)
            simp only [o8_15_8, Act.put, List.setIfInBounds_toArray, List.set_cons_zero, List.set_cons_succ]
            refine tk (v := ?_) 9 o8_15_9 (by rfl) ?_ ?_
            case refine_2 => unfold o8_15_9; intro w hSw; obtain ⟨i0, i1, i2, j0, j1, j2⟩ := HCE.out _ hSw; go_simp; (try with_reducible rfl)
            simp only [o8_15_9, Act.put, List.setIfInBounds_toArray, List.set_cons_zero, List.set_cons_succ]
            refine tk (v := ?_) 10 o8_15_10 (by rfl) ?_ ?_
            case refine_2 => unfold o8_15_10; intro w hSw; obtain ⟨i0, i1, i2, j0, j1, j2⟩ := HCE.out _ hSw; go_simp; (try with_reducible rfl)
            simp only [o8_15_10, Act.put, List.setIfInBounds_toArray, List.set_cons_zero, List.set_cons_succ]
            refine tk (v := ?_) 11 o8_15_11 (by rfl) ?_ ?_
            case refine_2 => unfold o8_15_11; intro w hSw; obtain ⟨i0, i1, i2, j0, j1, j2⟩ := HCE.out _ hSw; go_simp; (try with_reducible rfl)
            simp only [o8_15_11, Act.put, List.setIfInBounds_toArray, List.set_cons_zero, List.set_cons_succ]
            refine wpAnyH_ready (rs := [12]) (by kernel_rfl) (by simp) ?_
            refine (AllReadyH.cons (o := o8_15_12) rfl (fun K hK => ?_) AllReadyH.nil)
            unfold o8_15_12
            go_simp
            have hL6 := hL5.mkpr
            refine hK.out _ _ ?_ (fun hHeld => ?_)
            · exact hL6.bel
            clear hK K
            try simp only [Act.put, List.setIfInBounds_toArray, List.set_cons_zero, List.set_cons_succ]
            generalize hV : V5.alloc (.cells #[.int .i64 0, .slice none 0 0, .int .i64 0, .int .i64 0, .slice none 0 0, .int .i64 0, .int .i64 0, .slice none 0 0] 37) = V6 at *
            clear hV
            refine wpAnyH_ready (rs := [13]) (by kernel_rfl) (by simp) ?_
            refine (AllReadyH.cons (o := o8_15_13) rfl (fun K hK => ?_) AllReadyH.nil)
            unfold o8_15_13
            obtain ⟨hBge, hBr, _⟩ := hL6.fp _ rfl
            have m0 := cell_of_row _ _ 0 _ _ _ hBr
            have f0 := frozen_of_row _ _ 0 _ 37 hBr
            have m1 := cell_of_row _ _ 1 _ _ _ hBr
            have f1 := frozen_of_row _ _ 1 _ 37 hBr
            have m2 := cell_of_row _ _ 2 _ _ _ hBr
            have f2 := frozen_of_row _ _ 2 _ 37 hBr
            have m3 := cell_of_row _ _ 3 _ _ _ hBr
            have f3 := frozen_of_row _ _ 3 _ 37 hBr
            have m4 := cell_of_row _ _ 4 _ _ _ hBr
            have f4 := frozen_of_row _ _ 4 _ 37 hBr
            have m5 := cell_of_row _ _ 5 _ _ _ hBr
            have f5 := frozen_of_row _ _ 5 _ 37 hBr
            have m6 := cell_of_row _ _ 6 _ _ _ hBr
            have f6 := frozen_of_row _ _ 6 _ 37 hBr
            have m7 := cell_of_row _ _ 7 _ _ _ hBr
            have f7 := frozen_of_row _ _ 7 _ 37 hBr
            go_simp
            have hbF := below8 hL6.bel hBge (.int .i64 p9.step) (.slice x9.la p9.left.length x9.lc) (.int .i64 p9.goal.kind) (.int .i64 p9.goal.n) (.slice x9.ga p9.goal.kids.length x9.gc) (.int .i64 p9.ix) (.int .i64 p9.n) (.slice x9.ka p9.kids.length x9.kc)
            refine hK.out _ _ ?_ (fun hHeld => ?_)
            · exact hbF
            clear hK K
            try simp only [Act.put, List.setIfInBounds_toArray, List.set_cons_zero, List.set_cons_succ]
            refine tk (v := ?_) 14 o8_15_14 (by rfl) ?_ ?_
            case refine_2 => unfold o8_15_14; intro w hSw; obtain ⟨i0, i1, i2, j0, j1, j2⟩ := HCE.out _ hSw; go_simp; (try with_reducible rfl)
            simp only [o8_15_14, Act.put, List.setIfInBounds_toArray, List.set_cons_zero, List.set_cons_succ]
            refine tk (v := ?_) 15 o8_15_15 (by rfl) ?_ ?_
            case refine_2 => unfold o8_15_15; intro w hSw; obtain ⟨i0, i1, i2, j0, j1, j2⟩ := HCE.out _ hSw; go_simp; (try with_reducible rfl)
            simp only [o8_15_15, Act.put, List.setIfInBounds_toArray, List.set_cons_zero, List.set_cons_succ]
            refine wpAnyH_done (by kernel_rfl) ?_ _
            exact NoPanic.normal (hQ _ _ _ _ _ _ _ _ _ _ _ _ _ _ hbF)
          · skip
            unfold o8_15_12
            go_simp
            have hL5 := hL4.mkpr
            refine hK.out _ _ ?_ (fun hHeld => ?_)
            · exact hL5.bel
            clear hK K
            try simp only [Act.put, List.setIfInBounds_toArray, List.set_cons_zero, List.set_cons_succ]
            generalize hV : V4.alloc (.cells #[.int .i64 0, .slice none 0 0, .int .i64 0, .int .i64 0, .slice none 0 0, .int .i64 0, .int .i64 0, .slice none 0 0] 37) = V5 at *
            clear hV
            refine wpAnyH_ready (rs := [7]) (by kernel_rfl) (by simp) ?_
            refine (AllReadyH.cons (o := o8_15_7) rfl (fun K hK => ?_) AllReadyH.nil)
            unfold o8_15_7
            obtain ⟨a9, c9, he9, hr9, hT9⟩ := hL5.list (by omega)
            simp only [Value.slice.injEq, true_and] at he9
            obtain ⟨rfl, rfl⟩ := he9
            have KQ := Prove_any fl a7 c7 z az cz V5 r2 hT9 hr9 (hZ.out.below hL5.bel) H2.out
            rw [HE2.out] at KQ
            unfold vty at KQ
            go_simp
            (with_reducible refine KQ.mono ?_)
            clear KQ hT9 hr9
            rintro e9 V6 ⟨p9, x9, rfl, hb9, _, _⟩
            dsimp only
            unfold vpf
            have hL6 := hL5.below hb9
            refine hK.out _ _ ?_ (fun hHeld => ?_)
            · exact hL6.bel
            clear hK K
            try simp only [Act.put, List.setIfInBounds_toArray, List.set_cons_zero, List.set_cons_succ]
            refine tk (v := ?_) 8 o8_15_8 (by rfl) ?_ ?_
            case refine_2 => unfold o8_15_8; intro w hSw; obtain ⟨i0, i1, i2, j0, j1, j2⟩ := HCE.out _ hSw; go_simp; (try with_reducible rfl)
            simp only [o8_15_8, Act.put, List.setIfInBounds_toArray, List.set_cons_zero, List.set_cons_succ]
            refine tk (v := ?_) 9 o8_15_9 (by rfl) ?_ ?_
            case refine_2 => unfold o8_15_9; intro w hSw; obtain ⟨i0, i1, i2, j0, j1, j2⟩ := HCE.out _ hSw; go_simp; (try with_reducible rfl)
            simp only [o8_15_9, Act.put, List.setIfInBounds_toArray, List.set_cons_zero, List.set_cons_succ]
            refine tk (v := ?_) 10 o8_15_10 (by rfl) ?_ ?_
            case refine_2 => unfold o8_15_10; intro w hSw; obtain ⟨i0, i1, i2, j0, j1, j2⟩ := HCE.out _ hSw; go_simp; (try with_reducible rfl)
            simp only [o8_15_10, Act.put, List.setIfInBounds_toArray, List.set_cons_zero, List.set_cons_succ]
            refine tk (v := ?_) 11 o8_15_11 (by rfl) ?_ ?_
            case refine_2 => unfold o8_15_11; intro w hSw; obtain ⟨i0, i1, i2, j0, j1, j2⟩ := HCE.out _ hSw; go_simp; (try with_reducible rfl)
            simp only [o8_15_11, Act.put, List.setIfInBounds_toArray, List.set_cons_zero, List.set_cons_succ]
            refine wpAnyH_ready (rs := [13]) (by kernel_rfl) (by simp) ?_
            refine (AllReadyH.cons (o := o8_15_13) rfl (fun K hK => ?_) AllReadyH.nil)
            unfold o8_15_13
            obtain ⟨hBge, hBr, _⟩ := hL6.fp _ rfl
            have m0 := cell_of_row _ _ 0 _ _ _ hBr
            have f0 := frozen_of_row _ _ 0 _ 37 hBr
            have m1 := cell_of_row _ _ 1 _ _ _ hBr
            have f1 := frozen_of_row _ _ 1 _ 37 hBr
            have m2 := cell_of_row _ _ 2 _ _ _ hBr
            have f2 := frozen_of_row _ _ 2 _ 37 hBr
            have m3 := cell_of_row _ _ 3 _ _ _ hBr
            have f3 := frozen_of_row _ _ 3 _ 37 hBr
            have m4 := cell_of_row _ _ 4 _ _ _ hBr
            have f4 := frozen_of_row _ _ 4 _ 37 hBr
            have m5 := cell_of_row _ _ 5 _ _ _ hBr
            have f5 := frozen_of_row _ _ 5 _ 37 hBr
            have m6 := cell_of_row _ _ 6 _ _ _ hBr
            have f6 := frozen_of_row _ _ 6 _ 37 hBr
            have m7 := cell_of_row _ _ 7 _ _ _ hBr
            have f7 := frozen_of_row _ _ 7 _ 37 hBr
            go_simp
            have hbF := below8 hL6.bel hBge (.int .i64 p9.step) (.slice x9.la p9.left.length x9.lc) (.int .i64 p9.goal.kind) (.int .i64 p9.goal.n) (.slice x9.ga p9.goal.kids.length x9.gc) (.int .i64 p9.ix) (.int .i64 p9.n) (.slice x9.ka p9.kids.length x9.kc)
            refine hK.out _ _ ?_ (fun hHeld => ?_)
            · exact hbF
            clear hK K
            try simp only [Act.put, List.setIfInBounds_toArray, List.set_cons_zero, List.set_cons_succ]
            refine tk (v := ?_) 14 o8_15_14 (by rfl) ?_ ?_
            case refine_2 => unfold o8_15_14; intro w hSw; obtain ⟨i0, i1, i2, j0, j1, j2⟩ := HCE.out _ hSw; go_simp; (try with_reducible rfl)
            simp only [o8_15_14, Act.put, List.setIfInBounds_toArray, List.set_cons_zero, List.set_cons_succ]
            refine tk (v := ?_) 15 o8_15_15 (by rfl) ?_ ?_
            case refine_2 => unfold o8_15_15; intro w hSw; obtain ⟨i0, i1, i2, j0, j1, j2⟩ := HCE.out _ hSw; go_simp; (try with_reducible rfl)
            simp only [o8_15_15, Act.put, List.setIfInBounds_toArray, List.set_cons_zero, List.set_cons_succ]
            refine wpAnyH_done (by kernel_rfl) ?_ _
            exact NoPanic.normal (hQ _ _ _ _ _ _ _ _ _ _ _ _ _ _ hbF)
        · skip
          unfold o8_15_12
          go_simp
          have hL4 := hL3.mkpr
          refine hK.out _ _ ?_ (fun hHeld => ?_)
          · exact hL4.bel
          clear hK K
          try simp only [Act.put, List.setIfInBounds_toArray, List.set_cons_zero, List.set_cons_succ]
          generalize hV : V3.alloc (.cells #[.int .i64 0, .slice none 0 0, .int .i64 0, .int .i64 0, .slice none 0 0, .int .i64 0, .int .i64 0, .slice none 0 0] 37) = V4 at *
          clear hV
          refine wpAnyH_ready (rs := [5]) (by kernel_rfl) (by simp) ?_
          refine (AllReadyH.cons (o := o8_15_5) rfl (fun K hK => ?_) AllReadyH.nil)
          unfold o8_15_5
          obtain ⟨xs1, ho1, hr1⟩ := hL4.fr _ _ rfl
          obtain ⟨_, hB1, _⟩ := hL4.fo _ rfl
          refine step_append_at rfl (.tmp 120) (.tmp 122) 22 rfl wq.heap.size 24 i24 (.agg #[.int .i64 0, .int .i64 0, .slice none 0 0]) 3 40 Try.underlying22 hi24 hz240 hz241 hz242 rfl (by decide) _ _ xs1 rfl ho1 ⟨_, 0, none⟩ 1 1 (tyc x ax cx) rfl rfl (cell_tyc hB1) (tyc_one x ax cx) (by unfold maxLen; simp; omega) (by simp; omega) hL4.bel.size ?_
          intro v1_ V5 ho_ hg_ hat_
          have hL5 := hL4.app (M := [x]) ho1 hr1 (row_tyc hX.out) ho_ hg_ hat_
          clear ho_ hg_ hat_ ho1 hr1
          rw [HJN.out] at hL5
          obtain ⟨a7, c7, rfl, _, _⟩ := hL5.list (by omega)
          refine hK.out _ _ ?_ (fun hHeld => ?_)
          · exact hL5.bel
          clear hK K
          try simp only [Act.put, List.setIfInBounds_toArray, List.set_cons_zero, List.set_cons_succ]
          refine wpAnyH_ready (rs := [7]) (by kernel_rfl) (by simp) ?_
          refine (AllReadyH.cons (o := o8_15_7) rfl (fun K hK => ?_) AllReadyH.nil)
          unfold o8_15_7
          obtain ⟨a9, c9, he9, hr9, hT9⟩ := hL5.list (by omega)
          simp only [Value.slice.injEq, true_and] at he9
          obtain ⟨rfl, rfl⟩ := he9
          have KQ := Prove_any fl a7 c7 z az cz V5 r2 hT9 hr9 (hZ.out.below hL5.bel) H2.out
          rw [HE2.out] at KQ
          unfold vty at KQ
          go_simp
          (with_reducible refine KQ.mono ?_)
          clear KQ hT9 hr9
          rintro e9 V6 ⟨p9, x9, rfl, hb9, _, _⟩
          dsimp only
          unfold vpf
          have hL6 := hL5.below hb9
          refine hK.out _ _ ?_ (fun hHeld => ?_)
          · exact hL6.bel
          clear hK K
          try simp only [Act.put, List.setIfInBounds_toArray, List.set_cons_zero, List.set_cons_succ]
          refine tk (v := ?_) 8 o8_15_8 (by rfl) ?_ ?_
          case refine_2 => unfold o8_15_8; intro w hSw; obtain ⟨i0, i1, i2, j0, j1, j2⟩ := HCE.out _ hSw; go_simp; (try with_reducible rfl)
          simp only [o8_15_8, Act.put, List.setIfInBounds_toArray, List.set_cons_zero, List.set_cons_succ]
          refine tk (v := ?_) 9 o8_15_9 (by rfl) ?_ ?_
          case refine_2 => unfold o8_15_9; intro w hSw; obtain ⟨i0, i1, i2, j0, j1, j2⟩ := HCE.out _ hSw; go_simp; (try with_reducible rfl)
          simp only [o8_15_9, Act.put, List.setIfInBounds_toArray, List.set_cons_zero, List.set_cons_succ]
          refine tk (v := ?_) 10 o8_15_10 (by rfl) ?_ ?_
          case refine_2 => unfold o8_15_10; intro w hSw; obtain ⟨i0, i1, i2, j0, j1, j2⟩ := HCE.out _ hSw; go_simp; (try with_reducible rfl)
          simp only [o8_15_10, Act.put, List.setIfInBounds_toArray, List.set_cons_zero, List.set_cons_succ]
          refine tk (v := ?_) 11 o8_15_11 (by rfl) ?_ ?_
          case refine_2 => unfold o8_15_11; intro w hSw; obtain ⟨i0, i1, i2, j0, j1, j2⟩ := HCE.out _ hSw; go_simp; (try with_reducible rfl)
          simp only [o8_15_11, Act.put, List.setIfInBounds_toArray, List.set_cons_zero, List.set_cons_succ]
          refine wpAnyH_ready (rs := [13]) (by kernel_rfl) (by simp) ?_
          refine (AllReadyH.cons (o := o8_15_13) rfl (fun K hK => ?_) AllReadyH.nil)
          unfold o8_15_13
          obtain ⟨hBge, hBr, _⟩ := hL6.fp _ rfl
          have m0 := cell_of_row _ _ 0 _ _ _ hBr
          have f0 := frozen_of_row _ _ 0 _ 37 hBr
          have m1 := cell_of_row _ _ 1 _ _ _ hBr
          have f1 := frozen_of_row _ _ 1 _ 37 hBr
          have m2 := cell_of_row _ _ 2 _ _ _ hBr
          have f2 := frozen_of_row _ _ 2 _ 37 hBr
          have m3 := cell_of_row _ _ 3 _ _ _ hBr
          have f3 := frozen_of_row _ _ 3 _ 37 hBr
          have m4 := cell_of_row _ _ 4 _ _ _ hBr
          have f4 := frozen_of_row _ _ 4 _ 37 hBr
          have m5 := cell_of_row _ _ 5 _ _ _ hBr
          have f5 := frozen_of_row _ _ 5 _ 37 hBr
          have m6 := cell_of_row _ _ 6 _ _ _ hBr
          have f6 := frozen_of_row _ _ 6 _ 37 hBr
          have m7 := cell_of_row _ _ 7 _ _ _ hBr
          have f7 := frozen_of_row _ _ 7 _ 37 hBr
          go_simp
          have hbF := below8 hL6.bel hBge (.int .i64 p9.step) (.slice x9.la p9.left.length x9.lc) (.int .i64 p9.goal.kind) (.int .i64 p9.goal.n) (.slice x9.ga p9.goal.kids.length x9.gc) (.int .i64 p9.ix) (.int .i64 p9.n) (.slice x9.ka p9.kids.length x9.kc)
          refine hK.out _ _ ?_ (fun hHeld => ?_)
          · exact hbF
          clear hK K
          try simp only [Act.put, List.setIfInBounds_toArray, List.set_cons_zero, List.set_cons_succ]
          refine tk (v := ?_) 14 o8_15_14 (by rfl) ?_ ?_
          case refine_2 => unfold o8_15_14; intro w hSw; obtain ⟨i0, i1, i2, j0, j1, j2⟩ := HCE.out _ hSw; go_simp; (try with_reducible rfl)
          simp only [o8_15_14, Act.put, List.setIfInBounds_toArray, List.set_cons_zero, List.set_cons_succ]
          refine tk (v := ?_) 15 o8_15_15 (by rfl) ?_ ?_
          case refine_2 => unfold o8_15_15; intro w hSw; obtain ⟨i0, i1, i2, j0, j1, j2⟩ := HCE.out _ hSw; go_simp; (try with_reducible rfl)
          simp only [o8_15_15, Act.put, List.setIfInBounds_toArray, List.set_cons_zero, List.set_cons_succ]
          refine wpAnyH_done (by kernel_rfl) ?_ _
          exact NoPanic.normal (hQ _ _ _ _ _ _ _ _ _ _ _ _ _ _ hbF)
      · skip
        unfold o8_15_12
        go_simp
        have hL3 := hL2.mkpr
        refine hK.out _ _ ?_ (fun hHeld => ?_)
        · exact hL3.bel
        clear hK K
        try simp only [Act.put, List.setIfInBounds_toArray, List.set_cons_zero, List.set_cons_succ]
        generalize hV : V2.alloc (.cells #[.int .i64 0, .slice none 0 0, .int .i64 0, .int .i64 0, .slice none 0 0, .int .i64 0, .int .i64 0, .slice none 0 0] 37) = V3 at *
        clear hV
        refine wpAnyH_ready (rs := [4]) (by kernel_rfl) (by simp) ?_
        refine (AllReadyH.cons (o := o8_15_4) rfl (fun K hK => ?_) AllReadyH.nil)
        unfold o8_15_4
        go_simp
        have hL4 := hL3.mkone
        refine hK.out _ _ ?_ (fun hHeld => ?_)
        · exact hL4.bel
        clear hK K
        try simp only [Act.put, List.setIfInBounds_toArray, List.set_cons_zero, List.set_cons_succ]
        generalize hV : V3.alloc (.cells #[.int .i64 x.kind, .int .i64 x.n, .slice ax x.kids.length cx] 24) = V4 at *
        clear hV
        refine wpAnyH_ready (rs := [5]) (by kernel_rfl) (by simp) ?_
        refine (AllReadyH.cons (o := o8_15_5) rfl (fun K hK => ?_) AllReadyH.nil)
        unfold o8_15_5
        obtain ⟨xs1, ho1, hr1⟩ := hL4.fr _ _ rfl
        obtain ⟨_, hB1, _⟩ := hL4.fo _ rfl
        refine step_append_at rfl (.tmp 120) (.tmp 122) 22 rfl wq.heap.size 24 i24 (.agg #[.int .i64 0, .int .i64 0, .slice none 0 0]) 3 40 Try.underlying22 hi24 hz240 hz241 hz242 rfl (by decide) _ _ xs1 rfl ho1 ⟨_, 0, none⟩ 1 1 (tyc x ax cx) rfl rfl (cell_tyc hB1) (tyc_one x ax cx) (by unfold maxLen; simp; omega) (by simp; omega) hL4.bel.size ?_
        intro v1_ V5 ho_ hg_ hat_
        have hL5 := hL4.app (M := [x]) ho1 hr1 (row_tyc hX.out) ho_ hg_ hat_
        clear ho_ hg_ hat_ ho1 hr1
        rw [HJN.out] at hL5
        obtain ⟨a7, c7, rfl, _, _⟩ := hL5.list (by omega)
        refine hK.out _ _ ?_ (fun hHeld => ?_)
        · exact hL5.bel
        clear hK K
        try simp only [Act.put, List.setIfInBounds_toArray, List.set_cons_zero, List.set_cons_succ]
        refine wpAnyH_ready (rs := [7]) (by kernel_rfl) (by simp) ?_
        refine (AllReadyH.cons (o := o8_15_7) rfl (fun K hK => ?_) AllReadyH.nil)
        unfold o8_15_7
        obtain ⟨a9, c9, he9, hr9, hT9⟩ := hL5.list (by omega)
        simp only [Value.slice.injEq, true_and] at he9
        obtain ⟨rfl, rfl⟩ := he9
        have KQ := Prove_any fl a7 c7 z az cz V5 r2 hT9 hr9 (hZ.out.below hL5.bel) H2.out
        rw [HE2.out] at KQ
        unfold vty at KQ
        go_simp
        (with_reducible refine KQ.mono ?_)
        clear KQ hT9 hr9
        rintro e9 V6 ⟨p9, x9, rfl, hb9, _, _⟩
        dsimp only
        unfold vpf
        have hL6 := hL5.below hb9
        refine hK.out _ _ ?_ (fun hHeld => ?_)
        · exact hL6.bel
        clear hK K
        try simp only [Act.put, List.setIfInBounds_toArray, List.set_cons_zero, List.set_cons_succ]
        refine tk (v := ?_) 8 o8_15_8 (by rfl) ?_ ?_
        case refine_2 => unfold o8_15_8; intro w hSw; obtain ⟨i0, i1, i2, j0, j1, j2⟩ := HCE.out _ hSw; go_simp; (try with_reducible rfl)
        simp only [o8_15_8, Act.put, List.setIfInBounds_toArray, List.set_cons_zero, List.set_cons_succ]
        refine tk (v := ?_) 9 o8_15_9 (by rfl) ?_ ?_
        case refine_2 => unfold o8_15_9; intro w hSw; obtain ⟨i0, i1, i2, j0, j1, j2⟩ := HCE.out _ hSw; go_simp; (try with_reducible rfl)
        simp only [o8_15_9, Act.put, List.setIfInBounds_toArray, List.set_cons_zero, List.set_cons_succ]
        refine tk (v := ?_) 10 o8_15_10 (by rfl) ?_ ?_
        case refine_2 => unfold o8_15_10; intro w hSw; obtain ⟨i0, i1, i2, j0, j1, j2⟩ := HCE.out _ hSw; go_simp; (try with_reducible rfl)
        simp only [o8_15_10, Act.put, List.setIfInBounds_toArray, List.set_cons_zero, List.set_cons_succ]
        refine tk (v := ?_) 11 o8_15_11 (by rfl) ?_ ?_
        case refine_2 => unfold o8_15_11; intro w hSw; obtain ⟨i0, i1, i2, j0, j1, j2⟩ := HCE.out _ hSw; go_simp; (try with_reducible rfl)
        simp only [o8_15_11, Act.put, List.setIfInBounds_toArray, List.set_cons_zero, List.set_cons_succ]
        refine wpAnyH_ready (rs := [13]) (by kernel_rfl) (by simp) ?_
        refine (AllReadyH.cons (o := o8_15_13) rfl (fun K hK => ?_) AllReadyH.nil)
        unfold o8_15_13
        obtain ⟨hBge, hBr, _⟩ := hL6.fp _ rfl
        have m0 := cell_of_row _ _ 0 _ _ _ hBr
        have f0 := frozen_of_row _ _ 0 _ 37 hBr
        have m1 := cell_of_row _ _ 1 _ _ _ hBr
        have f1 := frozen_of_row _ _ 1 _ 37 hBr
        have m2 := cell_of_row _ _ 2 _ _ _ hBr
        have f2 := frozen_of_row _ _ 2 _ 37 hBr
        have m3 := cell_of_row _ _ 3 _ _ _ hBr
        have f3 := frozen_of_row _ _ 3 _ 37 hBr
        have m4 := cell_of_row _ _ 4 _ _ _ hBr
        have f4 := frozen_of_row _ _ 4 _ 37 hBr
        have m5 := cell_of_row _ _ 5 _ _ _ hBr
        have f5 := frozen_of_row _ _ 5 _ 37 hBr
        have m6 := cell_of_row _ _ 6 _ _ _ hBr
        have f6 := frozen_of_row _ _ 6 _ 37 hBr
        have m7 := cell_of_row _ _ 7 _ _ _ hBr
        have f7 := frozen_of_row _ _ 7 _ 37 hBr
        go_simp
        have hbF := below8 hL6.bel hBge (.int .i64 p9.step) (.slice x9.la p9.left.length x9.lc) (.int .i64 p9.goal.kind) (.int .i64 p9.goal.n) (.slice x9.ga p9.goal.kids.length x9.gc) (.int .i64 p9.ix) (.int .i64 p9.n) (.slice x9.ka p9.kids.length x9.kc)
        refine hK.out _ _ ?_ (fun hHeld => ?_)
        · exact hbF
        clear hK K
        try simp only [Act.put, List.setIfInBounds_toArray, List.set_cons_zero, List.set_cons_succ]
        refine tk (v := ?_) 14 o8_15_14 (by rfl) ?_ ?_
        case refine_2 => unfold o8_15_14; intro w hSw; obtain ⟨i0, i1, i2, j0, j1, j2⟩ := HCE.out _ hSw; go_simp; (try with_reducible rfl)
        simp only [o8_15_14, Act.put, List.setIfInBounds_toArray, List.set_cons_zero, List.set_cons_succ]
        refine tk (v := ?_) 15 o8_15_15 (by rfl) ?_ ?_
        case refine_2 => unfold o8_15_15; intro w hSw; obtain ⟨i0, i1, i2, j0, j1, j2⟩ := HCE.out _ hSw; go_simp; (try with_reducible rfl)
        simp only [o8_15_15, Act.put, List.setIfInBounds_toArray, List.set_cons_zero, List.set_cons_succ]
        refine wpAnyH_done (by kernel_rfl) ?_ _
        exact NoPanic.normal (hQ _ _ _ _ _ _ _ _ _ _ _ _ _ _ hbF)
    · skip
      unfold o8_15_4
      go_simp
      have hL2 := hL1.mkone
      refine hK.out _ _ ?_ (fun hHeld => ?_)
      · exact hL2.bel
      clear hK K
      try simp only [Act.put, List.setIfInBounds_toArray, List.set_cons_zero, List.set_cons_succ]
      generalize hV : V1.alloc (.cells #[.int .i64 x.kind, .int .i64 x.n, .slice ax x.kids.length cx] 24) = V2 at *
      clear hV
      refine wpAnyH_ready (rs := [2, 12]) (by kernel_rfl) (by simp) ?_
      refine (AllReadyH.cons (o := o8_15_2) rfl (fun K hK => ?_) (AllReadyH.cons (o := o8_15_12) rfl (fun K hK => ?_) AllReadyH.nil))
      · skip
        unfold o8_15_2
        obtain ⟨xs0, ho0, hr0⟩ := hL2.fr _ _ rfl
        refine step_src wq rfl (.tmp 118) (.tmp 119) rfl wq.heap.size _ _ xs0 rfl ho0 cD rfl hsD.out hL2.bel (by simp; omega) hL2.bel.size ?_
        intro v0_ V3 ho_ hg_ hat_
        have hL3 := hL2.app ho0 hr0 hsD.out.2.2.1 ho_ hg_ hat_
        clear ho_ hg_ hat_ ho0 hr0
        refine hK.out _ _ ?_ (fun hHeld => ?_)
        · exact hL3.bel
        clear hK K
        try simp only [Act.put, List.setIfInBounds_toArray, List.set_cons_zero, List.set_cons_succ]
        refine wpAnyH_ready (rs := [5, 12]) (by kernel_rfl) (by simp) ?_
        refine (AllReadyH.cons (o := o8_15_5) rfl (fun K hK => ?_) (AllReadyH.cons (o := o8_15_12) rfl (fun K hK => ?_) AllReadyH.nil))
        · skip
          unfold o8_15_5
          obtain ⟨xs1, ho1, hr1⟩ := hL3.fr _ _ rfl
          obtain ⟨_, hB1, _⟩ := hL3.fo _ rfl
          refine step_append_at rfl (.tmp 120) (.tmp 122) 22 rfl wq.heap.size 24 i24 (.agg #[.int .i64 0, .int .i64 0, .slice none 0 0]) 3 40 Try.underlying22 hi24 hz240 hz241 hz242 rfl (by decide) _ _ xs1 rfl ho1 ⟨_, 0, none⟩ 1 1 (tyc x ax cx) rfl rfl (cell_tyc hB1) (tyc_one x ax cx) (by unfold maxLen; simp; omega) (by simp; omega) hL3.bel.size ?_
          intro v1_ V4 ho_ hg_ hat_
          have hL4 := hL3.app (M := [x]) ho1 hr1 (row_tyc hX.out) ho_ hg_ hat_
          clear ho_ hg_ hat_ ho1 hr1
          rw [HJN.out] at hL4
          obtain ⟨a7, c7, rfl, _, _⟩ := hL4.list (by omega)
          refine hK.out _ _ ?_ (fun hHeld => ?_)
          · exact hL4.bel
          clear hK K
          try simp only [Act.put, List.setIfInBounds_toArray, List.set_cons_zero, List.set_cons_succ]
          refine wpAnyH_ready (rs := [7, 12]) (by kernel_rfl) (by simp) ?_
          refine (AllReadyH.cons (o := o8_15_7) rfl (fun K hK => ?_) (AllReadyH.cons (o := o8_15_12) rfl (fun K hK => ?_) AllReadyH.nil))
          · skip
            unfold o8_15_7
            obtain ⟨a9, c9, he9, hr9, hT9⟩ := hL4.list (by omega)
            simp only [Value.slice.injEq, true_and] at he9
            obtain ⟨rfl, rfl⟩ := he9
            have KQ := Prove_any fl a7 c7 z az cz V4 r2 hT9 hr9 (hZ.out.below hL4.bel) H2.out
            rw [HE2.out] at KQ
            unfold vty at KQ
            go_simp
            (with_reducible refine KQ.mono ?_)
            clear KQ hT9 hr9
            rintro e9 V5 ⟨p9, x9, rfl, hb9, _, _⟩
            dsimp only
            unfold vpf
            have hL5 := hL4.below hb9
            refine hK.out _ _ ?_ (fun hHeld => ?_)
            · exact hL5.bel
            clear hK K
            try simp only [Act.put, List.setIfInBounds_toArray, List.set_cons_zero, List.set_cons_succ]
            refine tk (v := ?_) 8 o8_15_8 (by rfl) ?_ ?_
            case refine_2 => unfold o8_15_8; intro w hSw; obtain ⟨i0, i1, i2, j0, j1, j2⟩ := HCE.out _ hSw; go_simp; (try with_reducible rfl)
            simp only [o8_15_8, Act.put, List.setIfInBounds_toArray, List.set_cons_zero, List.set_cons_succ]
            refine tk (v := ?_) 9 o8_15_9 (by rfl) ?_ ?_
            case refine_2 => unfold o8_15_9; intro w hSw; obtain ⟨i0, i1, i2, j0, j1, j2⟩ := HCE.out _ hSw; go_simp; (try with_reducible rfl)
            simp only [o8_15_9, Act.put, List.setIfInBounds_toArray, List.set_cons_zero, List.set_cons_succ]
            refine tk (v := ?_) 10 o8_15_10 (by rfl) ?_ ?_
            case refine_2 => unfold o8_15_10; intro w hSw; obtain ⟨i0, i1, i2, j0, j1, j2⟩ := HCE.out _ hSw; go_simp; (try with_reducible rfl)
            simp only [o8_15_10, Act.put, List.setIfInBounds_toArray, List.set_cons_zero, List.set_cons_succ]
            refine tk (v := ?_) 11 o8_15_11 (by rfl) ?_ ?_
            case refine_2 => unfold o8_15_11; intro w hSw; obtain ⟨i0, i1, i2, j0, j1, j2⟩ := HCE.out _ hSw; go_simp; (try with_reducible rfl)
            simp only [o8_15_11, Act.put, List.setIfInBounds_toArray, List.set_cons_zero, List.set_cons_succ]
            refine wpAnyH_ready (rs := [12]) (by kernel_rfl) (by simp) ?_
            refine (AllReadyH.cons (o := o8_15_12) rfl (fun K hK => ?_) AllReadyH.nil)
            unfold o8_15_12
            go_simp
            have hL6 := hL5.mkpr
            refine hK.out _ _ ?_ (fun hHeld => ?_)
            · exact hL6.bel
            clear hK K
            try simp only [Act.put, List.setIfInBounds_toArray, List.set_cons_zero, List.set_cons_succ]
            generalize hV : V5.alloc (.cells #[.int .i64 0, .slice none 0 0, .int .i64 0, .int .i64 0, .slice none 0 0, .int .i64 0, .int .i64 0, .slice none 0 0] 37) = V6 at *
            clear hV
            refine wpAnyH_ready (rs := [13]) (by kernel_rfl) (by simp) ?_
            refine (AllReadyH.cons (o := o8_15_13) rfl (fun K hK => ?_) AllReadyH.nil)
            unfold o8_15_13
            obtain ⟨hBge, hBr, _⟩ := hL6.fp _ rfl
            have m0 := cell_of_row _ _ 0 _ _ _ hBr
            have f0 := frozen_of_row _ _ 0 _ 37 hBr
            have m1 := cell_of_row _ _ 1 _ _ _ hBr
            have f1 := frozen_of_row _ _ 1 _ 37 hBr
            have m2 := cell_of_row _ _ 2 _ _ _ hBr
            have f2 := frozen_of_row _ _ 2 _ 37 hBr
            have m3 := cell_of_row _ _ 3 _ _ _ hBr
            have f3 := frozen_of_row _ _ 3 _ 37 hBr
            have m4 := cell_of_row _ _ 4 _ _ _ hBr
            have f4 := frozen_of_row _ _ 4 _ 37 hBr
            have m5 := cell_of_row _ _ 5 _ _ _ hBr
            have f5 := frozen_of_row _ _ 5 _ 37 hBr
            have m6 := cell_of_row _ _ 6 _ _ _ hBr
            have f6 := frozen_of_row _ _ 6 _ 37 hBr
            have m7 := cell_of_row _ _ 7 _ _ _ hBr
            have f7 := frozen_of_row _ _ 7 _ 37 hBr
            go_simp
            have hbF := below8 hL6.bel hBge (.int .i64 p9.step) (.slice x9.la p9.left.length x9.lc) (.int .i64 p9.goal.kind) (.int .i64 p9.goal.n) (.slice x9.ga p9.goal.kids.length x9.gc) (.int .i64 p9.ix) (.int .i64 p9.n) (.slice x9.ka p9.kids.length x9.kc)
            refine hK.out _ _ ?_ (fun hHeld => ?_)
            · exact hbF
            clear hK K
            try simp only [Act.put, List.setIfInBounds_toArray, List.set_cons_zero, List.set_cons_succ]
            refine tk (v := ?_) 14 o8_15_14 (by rfl) ?_ ?_
            case refine_2 => unfold o8_15_14; intro w hSw; obtain ⟨i0, i1, i2, j0, j1, j2⟩ := HCE.out _ hSw; go_simp; (try with_reducible rfl)
            simp only [o8_15_14, Act.put, List.setIfInBounds_toArray, List.set_cons_zero, List.set_cons_succ]
            refine tk (v := ?_) 15 o8_15_15 (by rfl) ?_ ?_
            case refine_2 => unfold o8_15_15; intro w hSw; obtain ⟨i0, i1, i2, j0, j1, j2⟩ := HCE.out _ hSw; go_simp; (try with_reducible rfl)
            simp only [o8_15_15, Act.put, List.setIfInBounds_toArray, List.set_cons_zero, List.set_cons_succ]
            refine wpAnyH_done (by kernel_rfl) ?_ _
            exact NoPanic.normal (hQ _ _ _ _ _ _ _ _ _ _ _ _ _ _ hbF)
          · skip
            unfold o8_15_12
            go_simp
            have hL5 := hL4.mkpr
            refine hK.out _ _ ?_ (fun hHeld => ?_)
            · exact hL5.bel
            clear hK K
            try simp only [Act.put, List.setIfInBounds_toArray, List.set_cons_zero, List.set_cons_succ]
            generalize hV : V4.alloc (.cells #[.int .i64 0, .slice none 0 0, .int .i64 0, .int .i64 0, .slice none 0 0, .int .i64 0, .int .i64 0, .slice none 0 0] 37) = V5 at *
            clear hV
            refine wpAnyH_ready (rs := [7]) (by kernel_rfl) (by simp) ?_
            refine (AllReadyH.cons (o := o8_15_7) rfl (fun K hK => ?_) AllReadyH.nil)
            unfold o8_15_7
            obtain ⟨a9, c9, he9, hr9, hT9⟩ := hL5.list (by omega)
            simp only [Value.slice.injEq, true_and] at he9
            obtain ⟨rfl, rfl⟩ := he9
            have KQ := Prove_any fl a7 c7 z az cz V5 r2 hT9 hr9 (hZ.out.below hL5.bel) H2.out
            rw [HE2.out] at KQ
            unfold vty at KQ
            go_simp
            (with_reducible refine KQ.mono ?_)
            clear KQ hT9 hr9
            rintro e9 V6 ⟨p9, x9, rfl, hb9, _, _⟩
            dsimp only
            unfold vpf
            have hL6 := hL5.below hb9
            refine hK.out _ _ ?_ (fun hHeld => ?_)
            · exact hL6.bel
            clear hK K
            try simp only [Act.put, List.setIfInBounds_toArray, List.set_cons_zero, List.set_cons_succ]
            refine tk (v := ?_) 8 o8_15_8 (by rfl) ?_ ?_
            case refine_2 => unfold o8_15_8; intro w hSw; obtain ⟨i0, i1, i2, j0, j1, j2⟩ := HCE.out _ hSw; go_simp; (try with_reducible rfl)
            simp only [o8_15_8, Act.put, List.setIfInBounds_toArray, List.set_cons_zero, List.set_cons_succ]
            refine tk (v := ?_) 9 o8_15_9 (by rfl) ?_ ?_
            case refine_2 => unfold o8_15_9; intro w hSw; obtain ⟨i0, i1, i2, j0, j1, j2⟩ := HCE.out _ hSw; go_simp; (try with_reducible rfl)
            simp only [o8_15_9, Act.put, List.setIfInBounds_toArray, List.set_cons_zero, List.set_cons_succ]
            refine tk (v := ?_) 10 o8_15_10 (by rfl) ?_ ?_
            case refine_2 => unfold o8_15_10; intro w hSw; obtain ⟨i0, i1, i2, j0, j1, j2⟩ := HCE.out _ hSw; go_simp; (try with_reducible rfl)
            simp only [o8_15_10, Act.put, List.setIfInBounds_toArray, List.set_cons_zero, List.set_cons_succ]
            refine tk (v := ?_) 11 o8_15_11 (by rfl) ?_ ?_
            case refine_2 => unfold o8_15_11; intro w hSw; obtain ⟨i0, i1, i2, j0, j1, j2⟩ := HCE.out _ hSw; go_simp; (try with_reducible rfl)
            simp only [o8_15_11, Act.put, List.setIfInBounds_toArray, List.set_cons_zero, List.set_cons_succ]
            refine wpAnyH_ready (rs := [13]) (by kernel_rfl) (by simp) ?_
            refine (AllReadyH.cons (o := o8_15_13) rfl (fun K hK => ?_) AllReadyH.nil)
            unfold o8_15_13
            obtain ⟨hBge, hBr, _⟩ := hL6.fp _ rfl
            have m0 := cell_of_row _ _ 0 _ _ _ hBr
            have f0 := frozen_of_row _ _ 0 _ 37 hBr
            have m1 := cell_of_row _ _ 1 _ _ _ hBr
            have f1 := frozen_of_row _ _ 1 _ 37 hBr
            have m2 := cell_of_row _ _ 2 _ _ _ hBr
            have f2 := frozen_of_row _ _ 2 _ 37 hBr
            have m3 := cell_of_row _ _ 3 _ _ _ hBr
            have f3 := frozen_of_row _ _ 3 _ 37 hBr
            have m4 := cell_of_row _ _ 4 _ _ _ hBr
            have f4 := frozen_of_row _ _ 4 _ 37 hBr
            have m5 := cell_of_row _ _ 5 _ _ _ hBr
            have f5 := frozen_of_row _ _ 5 _ 37 hBr
            have m6 := cell_of_row _ _ 6 _ _ _ hBr
            have f6 := frozen_of_row _ _ 6 _ 37 hBr
            have m7 := cell_of_row _ _ 7 _ _ _ hBr
            have f7 := frozen_of_row _ _ 7 _ 37 hBr
            go_simp
            have hbF := below8 hL6.bel hBge (.int .i64 p9.step) (.slice x9.la p9.left.length x9.lc) (.int .i64 p9.goal.kind) (.int .i64 p9.goal.n) (.slice x9.ga p9.goal.kids.length x9.gc) (.int .i64 p9.ix) (.int .i64 p9.n) (.slice x9.ka p9.kids.length x9.kc)
            refine hK.out _ _ ?_ (fun hHeld => ?_)
            · exact hbF
            clear hK K
            try simp only [Act.put, List.setIfInBounds_toArray, List.set_cons_zero, List.set_cons_succ]
            refine tk (v := ?_) 14 o8_15_14 (by rfl) ?_ ?_
            case refine_2 => unfold o8_15_14; intro w hSw; obtain ⟨i0, i1, i2, j0, j1, j2⟩ := HCE.out _ hSw; go_simp; (try with_reducible rfl)
            simp only [o8_15_14, Act.put, List.setIfInBounds_toArray, List.set_cons_zero, List.set_cons_succ]
            refine tk (v := ?_) 15 o8_15_15 (by rfl) ?_ ?_
            case refine_2 => unfold o8_15_15; intro w hSw; obtain ⟨i0, i1, i2, j0, j1, j2⟩ := HCE.out _ hSw; go_simp; (try with_reducible rfl)
            simp only [o8_15_15, Act.put, List.setIfInBounds_toArray, List.set_cons_zero, List.set_cons_succ]
            refine wpAnyH_done (by kernel_rfl) ?_ _
            exact NoPanic.normal (hQ _ _ _ _ _ _ _ _ _ _ _ _ _ _ hbF)
        · skip
          unfold o8_15_12
          go_simp
          have hL4 := hL3.mkpr
          refine hK.out _ _ ?_ (fun hHeld => ?_)
          · exact hL4.bel
          clear hK K
          try simp only [Act.put, List.setIfInBounds_toArray, List.set_cons_zero, List.set_cons_succ]
          generalize hV : V3.alloc (.cells #[.int .i64 0, .slice none 0 0, .int .i64 0, .int .i64 0, .slice none 0 0, .int .i64 0, .int .i64 0, .slice none 0 0] 37) = V4 at *
          clear hV
          refine wpAnyH_ready (rs := [5]) (by kernel_rfl) (by simp) ?_
          refine (AllReadyH.cons (o := o8_15_5) rfl (fun K hK => ?_) AllReadyH.nil)
          unfold o8_15_5
          obtain ⟨xs1, ho1, hr1⟩ := hL4.fr _ _ rfl
          obtain ⟨_, hB1, _⟩ := hL4.fo _ rfl
          refine step_append_at rfl (.tmp 120) (.tmp 122) 22 rfl wq.heap.size 24 i24 (.agg #[.int .i64 0, .int .i64 0, .slice none 0 0]) 3 40 Try.underlying22 hi24 hz240 hz241 hz242 rfl (by decide) _ _ xs1 rfl ho1 ⟨_, 0, none⟩ 1 1 (tyc x ax cx) rfl rfl (cell_tyc hB1) (tyc_one x ax cx) (by unfold maxLen; simp; omega) (by simp; omega) hL4.bel.size ?_
          intro v1_ V5 ho_ hg_ hat_
          have hL5 := hL4.app (M := [x]) ho1 hr1 (row_tyc hX.out) ho_ hg_ hat_
          clear ho_ hg_ hat_ ho1 hr1
          rw [HJN.out] at hL5
          obtain ⟨a7, c7, rfl, _, _⟩ := hL5.list (by omega)
          refine hK.out _ _ ?_ (fun hHeld => ?_)
          · exact hL5.bel
          clear hK K
          try simp only [Act.put, List.setIfInBounds_toArray, List.set_cons_zero, List.set_cons_succ]
          refine wpAnyH_ready (rs := [7]) (by kernel_rfl) (by simp) ?_
          refine (AllReadyH.cons (o := o8_15_7) rfl (fun K hK => ?_) AllReadyH.nil)
          unfold o8_15_7
          obtain ⟨a9, c9, he9, hr9, hT9⟩ := hL5.list (by omega)
          simp only [Value.slice.injEq, true_and] at he9
          obtain ⟨rfl, rfl⟩ := he9
          have KQ := Prove_any fl a7 c7 z az cz V5 r2 hT9 hr9 (hZ.out.below hL5.bel) H2.out
          rw [HE2.out] at KQ
          unfold vty at KQ
          go_simp
          (with_reducible refine KQ.mono ?_)
          clear KQ hT9 hr9
          rintro e9 V6 ⟨p9, x9, rfl, hb9, _, _⟩
          dsimp only
          unfold vpf
          have hL6 := hL5.below hb9
          refine hK.out _ _ ?_ (fun hHeld => ?_)
          · exact hL6.bel
          clear hK K
          try simp only [Act.put, List.setIfInBounds_toArray, List.set_cons_zero, List.set_cons_succ]
          refine tk (v := ?_) 8 o8_15_8 (by rfl) ?_ ?_
          case refine_2 => unfold o8_15_8; intro w hSw; obtain ⟨i0, i1, i2, j0, j1, j2⟩ := HCE.out _ hSw; go_simp; (try with_reducible rfl)
          simp only [o8_15_8, Act.put, List.setIfInBounds_toArray, List.set_cons_zero, List.set_cons_succ]
          refine tk (v := ?_) 9 o8_15_9 (by rfl) ?_ ?_
          case refine_2 => unfold o8_15_9; intro w hSw; obtain ⟨i0, i1, i2, j0, j1, j2⟩ := HCE.out _ hSw; go_simp; (try with_reducible rfl)
          simp only [o8_15_9, Act.put, List.setIfInBounds_toArray, List.set_cons_zero, List.set_cons_succ]
          refine tk (v := ?_) 10 o8_15_10 (by rfl) ?_ ?_
          case refine_2 => unfold o8_15_10; intro w hSw; obtain ⟨i0, i1, i2, j0, j1, j2⟩ := HCE.out _ hSw; go_simp; (try with_reducible rfl)
          simp only [o8_15_10, Act.put, List.setIfInBounds_toArray, List.set_cons_zero, List.set_cons_succ]
          refine tk (v := ?_) 11 o8_15_11 (by rfl) ?_ ?_
          case refine_2 => unfold o8_15_11; intro w hSw; obtain ⟨i0, i1, i2, j0, j1, j2⟩ := HCE.out _ hSw; go_simp; (try with_reducible rfl)
          simp only [o8_15_11, Act.put, List.setIfInBounds_toArray, List.set_cons_zero, List.set_cons_succ]
          refine wpAnyH_ready (rs := [13]) (by kernel_rfl) (by simp) ?_
          refine (AllReadyH.cons (o := o8_15_13) rfl (fun K hK => ?_) AllReadyH.nil)
          unfold o8_15_13
          obtain ⟨hBge, hBr, _⟩ := hL6.fp _ rfl
          have m0 := cell_of_row _ _ 0 _ _ _ hBr
          have f0 := frozen_of_row _ _ 0 _ 37 hBr
          have m1 := cell_of_row _ _ 1 _ _ _ hBr
          have f1 := frozen_of_row _ _ 1 _ 37 hBr
          have m2 := cell_of_row _ _ 2 _ _ _ hBr
          have f2 := frozen_of_row _ _ 2 _ 37 hBr
          have m3 := cell_of_row _ _ 3 _ _ _ hBr
          have f3 := frozen_of_row _ _ 3 _ 37 hBr
          have m4 := cell_of_row _ _ 4 _ _ _ hBr
          have f4 := frozen_of_row _ _ 4 _ 37 hBr
          have m5 := cell_of_row _ _ 5 _ _ _ hBr
          have f5 := frozen_of_row _ _ 5 _ 37 hBr
          have m6 := cell_of_row _ _ 6 _ _ _ hBr
          have f6 := frozen_of_row _ _ 6 _ 37 hBr
          have m7 := cell_of_row _ _ 7 _ _ _ hBr
          have f7 := frozen_of_row _ _ 7 _ 37 hBr
          go_simp
          have hbF := below8 hL6.bel hBge (.int .i64 p9.step) (.slice x9.la p9.left.length x9.lc) (.int .i64 p9.goal.kind) (.int .i64 p9.goal.n) (.slice x9.ga p9.goal.kids.length x9.gc) (.int .i64 p9.ix) (.int .i64 p9.n) (.slice x9.ka p9.kids.length x9.kc)
          refine hK.out _ _ ?_ (fun hHeld => ?_)
          · exact hbF
          clear hK K
          try simp only [Act.put, List.setIfInBounds_toArray, List.set_cons_zero, List.set_cons_succ]
          refine tk (v := ?_) 14 o8_15_14 (by rfl) ?_ ?_
          case refine_2 => unfold o8_15_14; intro w hSw; obtain ⟨i0, i1, i2, j0, j1, j2⟩ := HCE.out _ hSw; go_simp; (try with_reducible rfl)
          simp only [o8_15_14, Act.put, List.setIfInBounds_toArray, List.set_cons_zero, List.set_cons_succ]
          refine tk (v := ?_) 15 o8_15_15 (by rfl) ?_ ?_
          case refine_2 => unfold o8_15_15; intro w hSw; obtain ⟨i0, i1, i2, j0, j1, j2⟩ := HCE.out _ hSw; go_simp; (try with_reducible rfl)
          simp only [o8_15_15, Act.put, List.setIfInBounds_toArray, List.set_cons_zero, List.set_cons_succ]
          refine wpAnyH_done (by kernel_rfl) ?_ _
          exact NoPanic.normal (hQ _ _ _ _ _ _ _ _ _ _ _ _ _ _ hbF)
      · skip
        unfold o8_15_12
        go_simp
        have hL3 := hL2.mkpr
        refine hK.out _ _ ?_ (fun hHeld => ?_)
        · exact hL3.bel
        clear hK K
        try simp only [Act.put, List.setIfInBounds_toArray, List.set_cons_zero, List.set_cons_succ]
        generalize hV : V2.alloc (.cells #[.int .i64 0, .slice none 0 0, .int .i64 0, .int .i64 0, .slice none 0 0, .int .i64 0, .int .i64 0, .slice none 0 0] 37) = V3 at *
        clear hV
        refine wpAnyH_ready (rs := [2]) (by kernel_rfl) (by simp) ?_
        refine (AllReadyH.cons (o := o8_15_2) rfl (fun K hK => ?_) AllReadyH.nil)
        unfold o8_15_2
        obtain ⟨xs0, ho0, hr0⟩ := hL3.fr _ _ rfl
        refine step_src wq rfl (.tmp 118) (.tmp 119) rfl wq.heap.size _ _ xs0 rfl ho0 cD rfl hsD.out hL3.bel (by simp; omega) hL3.bel.size ?_
        intro v0_ V4 ho_ hg_ hat_
        have hL4 := hL3.app ho0 hr0 hsD.out.2.2.1 ho_ hg_ hat_
        clear ho_ hg_ hat_ ho0 hr0
        refine hK.out _ _ ?_ (fun hHeld => ?_)
        · exact hL4.bel
        clear hK K
        try simp only [Act.put, List.setIfInBounds_toArray, List.set_cons_zero, List.set_cons_succ]
        refine wpAnyH_ready (rs := [5]) (by kernel_rfl) (by simp) ?_
        refine (AllReadyH.cons (o := o8_15_5) rfl (fun K hK => ?_) AllReadyH.nil)
        unfold o8_15_5
        obtain ⟨xs1, ho1, hr1⟩ := hL4.fr _ _ rfl
        obtain ⟨_, hB1, _⟩ := hL4.fo _ rfl
        refine step_append_at rfl (.tmp 120) (.tmp 122) 22 rfl wq.heap.size 24 i24 (.agg #[.int .i64 0, .int .i64 0, .slice none 0 0]) 3 40 Try.underlying22 hi24 hz240 hz241 hz242 rfl (by decide) _ _ xs1 rfl ho1 ⟨_, 0, none⟩ 1 1 (tyc x ax cx) rfl rfl (cell_tyc hB1) (tyc_one x ax cx) (by unfold maxLen; simp; omega) (by simp; omega) hL4.bel.size ?_
        intro v1_ V5 ho_ hg_ hat_
        have hL5 := hL4.app (M := [x]) ho1 hr1 (row_tyc hX.out) ho_ hg_ hat_
        clear ho_ hg_ hat_ ho1 hr1
        rw [HJN.out] at hL5
        obtain ⟨a7, c7, rfl, _, _⟩ := hL5.list (by omega)
        refine hK.out _ _ ?_ (fun hHeld => ?_)
        · exact hL5.bel
        clear hK K
        try simp only [Act.put, List.setIfInBounds_toArray, List.set_cons_zero, List.set_cons_succ]
        refine wpAnyH_ready (rs := [7]) (by kernel_rfl) (by simp) ?_
        refine (AllReadyH.cons (o := o8_15_7) rfl (fun K hK => ?_) AllReadyH.nil)
        unfold o8_15_7
        obtain ⟨a9, c9, he9, hr9, hT9⟩ := hL5.list (by omega)
        simp only [Value.slice.injEq, true_and] at he9
        obtain ⟨rfl, rfl⟩ := he9
        have KQ := Prove_any fl a7 c7 z az cz V5 r2 hT9 hr9 (hZ.out.below hL5.bel) H2.out
        rw [HE2.out] at KQ
        unfold vty at KQ
        go_simp
        (with_reducible refine KQ.mono ?_)
        clear KQ hT9 hr9
        rintro e9 V6 ⟨p9, x9, rfl, hb9, _, _⟩
        dsimp only
        unfold vpf
        have hL6 := hL5.below hb9
        refine hK.out _ _ ?_ (fun hHeld => ?_)
        · exact hL6.bel
        clear hK K
        try simp only [Act.put, List.setIfInBounds_toArray, List.set_cons_zero, List.set_cons_succ]
        refine tk (v := ?_) 8 o8_15_8 (by rfl) ?_ ?_
        case refine_2 => unfold o8_15_8; intro w hSw; obtain ⟨i0, i1, i2, j0, j1, j2⟩ := HCE.out _ hSw; go_simp; (try with_reducible rfl)
        simp only [o8_15_8, Act.put, List.setIfInBounds_toArray, List.set_cons_zero, List.set_cons_succ]
        refine tk (v := ?_) 9 o8_15_9 (by rfl) ?_ ?_
        case refine_2 => unfold o8_15_9; intro w hSw; obtain ⟨i0, i1, i2, j0, j1, j2⟩ := HCE.out _ hSw; go_simp; (try with_reducible rfl)
        simp only [o8_15_9, Act.put, List.setIfInBounds_toArray, List.set_cons_zero, List.set_cons_succ]
        refine tk (v := ?_) 10 o8_15_10 (by rfl) ?_ ?_
        case refine_2 => unfold o8_15_10; intro w hSw; obtain ⟨i0, i1, i2, j0, j1, j2⟩ := HCE.out _ hSw; go_simp; (try with_reducible rfl)
        simp only [o8_15_10, Act.put, List.setIfInBounds_toArray, List.set_cons_zero, List.set_cons_succ]
        refine tk (v := ?_) 11 o8_15_11 (by rfl) ?_ ?_
        case refine_2 => unfold o8_15_11; intro w hSw; obtain ⟨i0, i1, i2, j0, j1, j2⟩ := HCE.out _ hSw; go_simp; (try with_reducible rfl)
        simp only [o8_15_11, Act.put, List.setIfInBounds_toArray, List.set_cons_zero, List.set_cons_succ]
        refine wpAnyH_ready (rs := [13]) (by kernel_rfl) (by simp) ?_
        refine (AllReadyH.cons (o := o8_15_13) rfl (fun K hK => ?_) AllReadyH.nil)
        unfold o8_15_13
        obtain ⟨hBge, hBr, _⟩ := hL6.fp _ rfl
        have m0 := cell_of_row _ _ 0 _ _ _ hBr
        have f0 := frozen_of_row _ _ 0 _ 37 hBr
        have m1 := cell_of_row _ _ 1 _ _ _ hBr
        have f1 := frozen_of_row _ _ 1 _ 37 hBr
        have m2 := cell_of_row _ _ 2 _ _ _ hBr
        have f2 := frozen_of_row _ _ 2 _ 37 hBr
        have m3 := cell_of_row _ _ 3 _ _ _ hBr
        have f3 := frozen_of_row _ _ 3 _ 37 hBr
        have m4 := cell_of_row _ _ 4 _ _ _ hBr
        have f4 := frozen_of_row _ _ 4 _ 37 hBr
        have m5 := cell_of_row _ _ 5 _ _ _ hBr
        have f5 := frozen_of_row _ _ 5 _ 37 hBr
        have m6 := cell_of_row _ _ 6 _ _ _ hBr
        have f6 := frozen_of_row _ _ 6 _ 37 hBr
        have m7 := cell_of_row _ _ 7 _ _ _ hBr
        have f7 := frozen_of_row _ _ 7 _ 37 hBr
        go_simp
        have hbF := below8 hL6.bel hBge (.int .i64 p9.step) (.slice x9.la p9.left.length x9.lc) (.int .i64 p9.goal.kind) (.int .i64 p9.goal.n) (.slice x9.ga p9.goal.kids.length x9.gc) (.int .i64 p9.ix) (.int .i64 p9.n) (.slice x9.ka p9.kids.length x9.kc)
        refine hK.out _ _ ?_ (fun hHeld => ?_)
        · exact hbF
        clear hK K
        try simp only [Act.put, List.setIfInBounds_toArray, List.set_cons_zero, List.set_cons_succ]
        refine tk (v := ?_) 14 o8_15_14 (by rfl) ?_ ?_
        case refine_2 => unfold o8_15_14; intro w hSw; obtain ⟨i0, i1, i2, j0, j1, j2⟩ := HCE.out _ hSw; go_simp; (try with_reducible rfl)
        simp only [o8_15_14, Act.put, List.setIfInBounds_toArray, List.set_cons_zero, List.set_cons_succ]
        refine tk (v := ?_) 15 o8_15_15 (by rfl) ?_ ?_
        case refine_2 => unfold o8_15_15; intro w hSw; obtain ⟨i0, i1, i2, j0, j1, j2⟩ := HCE.out _ hSw; go_simp; (try with_reducible rfl)
        simp only [o8_15_15, Act.put, List.setIfInBounds_toArray, List.set_cons_zero, List.set_cons_succ]
        refine wpAnyH_done (by kernel_rfl) ?_ _
        exact NoPanic.normal (hQ _ _ _ _ _ _ _ _ _ _ _ _ _ _ hbF)
    · skip
      unfold o8_15_12
      go_simp
      have hL2 := hL1.mkpr
      refine hK.out _ _ ?_ (fun hHeld => ?_)
      · exact hL2.bel
      clear hK K
      try simp only [Act.put, List.setIfInBounds_toArray, List.set_cons_zero, List.set_cons_succ]
      generalize hV : V1.alloc (.cells #[.int .i64 0, .slice none 0 0, .int .i64 0, .int .i64 0, .slice none 0 0, .int .i64 0, .int .i64 0, .slice none 0 0] 37) = V2 at *
      clear hV
      refine wpAnyH_ready (rs := [2, 4]) (by kernel_rfl) (by simp) ?_
      refine (AllReadyH.cons (o := o8_15_2) rfl (fun K hK => ?_) (AllReadyH.cons (o := o8_15_4) rfl (fun K hK => ?_) AllReadyH.nil))
      · skip
        unfold o8_15_2
        obtain ⟨xs0, ho0, hr0⟩ := hL2.fr _ _ rfl
        refine step_src wq rfl (.tmp 118) (.tmp 119) rfl wq.heap.size _ _ xs0 rfl ho0 cD rfl hsD.out hL2.bel (by simp; omega) hL2.bel.size ?_
        intro v0_ V3 ho_ hg_ hat_
        have hL3 := hL2.app ho0 hr0 hsD.out.2.2.1 ho_ hg_ hat_
        clear ho_ hg_ hat_ ho0 hr0
        refine hK.out _ _ ?_ (fun hHeld => ?_)
        · exact hL3.bel
        clear hK K
        try simp only [Act.put, List.setIfInBounds_toArray, List.set_cons_zero, List.set_cons_succ]
        refine wpAnyH_ready (rs := [4]) (by kernel_rfl) (by simp) ?_
        refine (AllReadyH.cons (o := o8_15_4) rfl (fun K hK => ?_) AllReadyH.nil)
        unfold o8_15_4
        go_simp
        have hL4 := hL3.mkone
        refine hK.out _ _ ?_ (fun hHeld => ?_)
        · exact hL4.bel
        clear hK K
        try simp only [Act.put, List.setIfInBounds_toArray, List.set_cons_zero, List.set_cons_succ]
        generalize hV : V3.alloc (.cells #[.int .i64 x.kind, .int .i64 x.n, .slice ax x.kids.length cx] 24) = V4 at *
        clear hV
        refine wpAnyH_ready (rs := [5]) (by kernel_rfl) (by simp) ?_
        refine (AllReadyH.cons (o := o8_15_5) rfl (fun K hK => ?_) AllReadyH.nil)
        unfold o8_15_5
        obtain ⟨xs1, ho1, hr1⟩ := hL4.fr _ _ rfl
        obtain ⟨_, hB1, _⟩ := hL4.fo _ rfl
        refine step_append_at rfl (.tmp 120) (.tmp 122) 22 rfl wq.heap.size 24 i24 (.agg #[.int .i64 0, .int .i64 0, .slice none 0 0]) 3 40 Try.underlying22 hi24 hz240 hz241 hz242 rfl (by decide) _ _ xs1 rfl ho1 ⟨_, 0, none⟩ 1 1 (tyc x ax cx) rfl rfl (cell_tyc hB1) (tyc_one x ax cx) (by unfold maxLen; simp; omega) (by simp; omega) hL4.bel.size ?_
        intro v1_ V5 ho_ hg_ hat_
        have hL5 := hL4.app (M := [x]) ho1 hr1 (row_tyc hX.out) ho_ hg_ hat_
        clear ho_ hg_ hat_ ho1 hr1
        rw [HJN.out] at hL5
        obtain ⟨a7, c7, rfl, _, _⟩ := hL5.list (by omega)
        refine hK.out _ _ ?_ (fun hHeld => ?_)
        · exact hL5.bel
        clear hK K
        try simp only [Act.put, List.setIfInBounds_toArray, List.set_cons_zero, List.set_cons_succ]
        refine wpAnyH_ready (rs := [7]) (by kernel_rfl) (by simp) ?_
        refine (AllReadyH.cons (o := o8_15_7) rfl (fun K hK => ?_) AllReadyH.nil)
        unfold o8_15_7
        obtain ⟨a9, c9, he9, hr9, hT9⟩ := hL5.list (by omega)
        simp only [Value.slice.injEq, true_and] at he9
        obtain ⟨rfl, rfl⟩ := he9
        have KQ := Prove_any fl a7 c7 z az cz V5 r2 hT9 hr9 (hZ.out.below hL5.bel) H2.out
        rw [HE2.out] at KQ
        unfold vty at KQ
        go_simp
        (with_reducible refine KQ.mono ?_)
        clear KQ hT9 hr9
        rintro e9 V6 ⟨p9, x9, rfl, hb9, _, _⟩
        dsimp only
        unfold vpf
        have hL6 := hL5.below hb9
        refine hK.out _ _ ?_ (fun hHeld => ?_)
        · exact hL6.bel
        clear hK K
        try simp only [Act.put, List.setIfInBounds_toArray, List.set_cons_zero, List.set_cons_succ]
        refine tk (v := ?_) 8 o8_15_8 (by rfl) ?_ ?_
        case refine_2 => unfold o8_15_8; intro w hSw; obtain ⟨i0, i1, i2, j0, j1, j2⟩ := HCE.out _ hSw; go_simp; (try with_reducible rfl)
        simp only [o8_15_8, Act.put, List.setIfInBounds_toArray, List.set_cons_zero, List.set_cons_succ]
        refine tk (v := ?_) 9 o8_15_9 (by rfl) ?_ ?_
        case refine_2 => unfold o8_15_9; intro w hSw; obtain ⟨i0, i1, i2, j0, j1, j2⟩ := HCE.out _ hSw; go_simp; (try with_reducible rfl)
        simp only [o8_15_9, Act.put, List.setIfInBounds_toArray, List.set_cons_zero, List.set_cons_succ]
        refine tk (v := ?_) 10 o8_15_10 (by rfl) ?_ ?_
        case refine_2 => unfold o8_15_10; intro w hSw; obtain ⟨i0, i1, i2, j0, j1, j2⟩ := HCE.out _ hSw; go_simp; (try with_reducible rfl)
        simp only [o8_15_10, Act.put, List.setIfInBounds_toArray, List.set_cons_zero, List.set_cons_succ]
        refine tk (v := ?_) 11 o8_15_11 (by rfl) ?_ ?_
        case refine_2 => unfold o8_15_11; intro w hSw; obtain ⟨i0, i1, i2, j0, j1, j2⟩ := HCE.out _ hSw; go_simp; (try with_reducible rfl)
        simp only [o8_15_11, Act.put, List.setIfInBounds_toArray, List.set_cons_zero, List.set_cons_succ]
        refine wpAnyH_ready (rs := [13]) (by kernel_rfl) (by simp) ?_
        refine (AllReadyH.cons (o := o8_15_13) rfl (fun K hK => ?_) AllReadyH.nil)
        unfold o8_15_13
        obtain ⟨hBge, hBr, _⟩ := hL6.fp _ rfl
        have m0 := cell_of_row _ _ 0 _ _ _ hBr
        have f0 := frozen_of_row _ _ 0 _ 37 hBr
        have m1 := cell_of_row _ _ 1 _ _ _ hBr
        have f1 := frozen_of_row _ _ 1 _ 37 hBr
        have m2 := cell_of_row _ _ 2 _ _ _ hBr
        have f2 := frozen_of_row _ _ 2 _ 37 hBr
        have m3 := cell_of_row _ _ 3 _ _ _ hBr
        have f3 := frozen_of_row _ _ 3 _ 37 hBr
        have m4 := cell_of_row _ _ 4 _ _ _ hBr
        have f4 := frozen_of_row _ _ 4 _ 37 hBr
        have m5 := cell_of_row _ _ 5 _ _ _ hBr
        have f5 := frozen_of_row _ _ 5 _ 37 hBr
        have m6 := cell_of_row _ _ 6 _ _ _ hBr
        have f6 := frozen_of_row _ _ 6 _ 37 hBr
        have m7 := cell_of_row _ _ 7 _ _ _ hBr
        have f7 := frozen_of_row _ _ 7 _ 37 hBr
        go_simp
        have hbF := below8 hL6.bel hBge (.int .i64 p9.step) (.slice x9.la p9.left.length x9.lc) (.int .i64 p9.goal.kind) (.int .i64 p9.goal.n) (.slice x9.ga p9.goal.kids.length x9.gc) (.int .i64 p9.ix) (.int .i64 p9.n) (.slice x9.ka p9.kids.length x9.kc)
        refine hK.out _ _ ?_ (fun hHeld => ?_)
        · exact hbF
        clear hK K
        try simp only [Act.put, List.setIfInBounds_toArray, List.set_cons_zero, List.set_cons_succ]
        refine tk (v := ?_) 14 o8_15_14 (by rfl) ?_ ?_
        case refine_2 => unfold o8_15_14; intro w hSw; obtain ⟨i0, i1, i2, j0, j1, j2⟩ := HCE.out _ hSw; go_simp; (try with_reducible rfl)
        simp only [o8_15_14, Act.put, List.setIfInBounds_toArray, List.set_cons_zero, List.set_cons_succ]
        refine tk (v := ?_) 15 o8_15_15 (by rfl) ?_ ?_
        case refine_2 => unfold o8_15_15; intro w hSw; obtain ⟨i0, i1, i2, j0, j1, j2⟩ := HCE.out _ hSw; go_simp; (try with_reducible rfl)
        simp only [o8_15_15, Act.put, List.setIfInBounds_toArray, List.set_cons_zero, List.set_cons_succ]
        refine wpAnyH_done (by kernel_rfl) ?_ _
        exact NoPanic.normal (hQ _ _ _ _ _ _ _ _ _ _ _ _ _ _ hbF)
      · skip
        unfold o8_15_4
        go_simp
        have hL3 := hL2.mkone
        refine hK.out _ _ ?_ (fun hHeld => ?_)
        · exact hL3.bel
        clear hK K
        try simp only [Act.put, List.setIfInBounds_toArray, List.set_cons_zero, List.set_cons_succ]
        generalize hV : V2.alloc (.cells #[.int .i64 x.kind, .int .i64 x.n, .slice ax x.kids.length cx] 24) = V3 at *
        clear hV
        refine wpAnyH_ready (rs := [2]) (by kernel_rfl) (by simp) ?_
        refine (AllReadyH.cons (o := o8_15_2) rfl (fun K hK => ?_) AllReadyH.nil)
        unfold o8_15_2
        obtain ⟨xs0, ho0, hr0⟩ := hL3.fr _ _ rfl
        refine step_src wq rfl (.tmp 118) (.tmp 119) rfl wq.heap.size _ _ xs0 rfl ho0 cD rfl hsD.out hL3.bel (by simp; omega) hL3.bel.size ?_
        intro v0_ V4 ho_ hg_ hat_
        have hL4 := hL3.app ho0 hr0 hsD.out.2.2.1 ho_ hg_ hat_
        clear ho_ hg_ hat_ ho0 hr0
        refine hK.out _ _ ?_ (fun hHeld => ?_)
        · exact hL4.bel
        clear hK K
        try simp only [Act.put, List.setIfInBounds_toArray, List.set_cons_zero, List.set_cons_succ]
        refine wpAnyH_ready (rs := [5]) (by kernel_rfl) (by simp) ?_
        refine (AllReadyH.cons (o := o8_15_5) rfl (fun K hK => ?_) AllReadyH.nil)
        unfold o8_15_5
        obtain ⟨xs1, ho1, hr1⟩ := hL4.fr _ _ rfl
        obtain ⟨_, hB1, _⟩ := hL4.fo _ rfl
        refine step_append_at rfl (.tmp 120) (.tmp 122) 22 rfl wq.heap.size 24 i24 (.agg #[.int .i64 0, .int .i64 0, .slice none 0 0]) 3 40 Try.underlying22 hi24 hz240 hz241 hz242 rfl (by decide) _ _ xs1 rfl ho1 ⟨_, 0, none⟩ 1 1 (tyc x ax cx) rfl rfl (cell_tyc hB1) (tyc_one x ax cx) (by unfold maxLen; simp; omega) (by simp; omega) hL4.bel.size ?_
        intro v1_ V5 ho_ hg_ hat_
        have hL5 := hL4.app (M := [x]) ho1 hr1 (row_tyc hX.out) ho_ hg_ hat_
        clear ho_ hg_ hat_ ho1 hr1
        rw [HJN.out] at hL5
        obtain ⟨a7, c7, rfl, _, _⟩ := hL5.list (by omega)
        refine hK.out _ _ ?_ (fun hHeld => ?_)
        · exact hL5.bel
        clear hK K
        try simp only [Act.put, List.setIfInBounds_toArray, List.set_cons_zero, List.set_cons_succ]
        refine wpAnyH_ready (rs := [7]) (by kernel_rfl) (by simp) ?_
        refine (AllReadyH.cons (o := o8_15_7) rfl (fun K hK => ?_) AllReadyH.nil)
        unfold o8_15_7
        obtain ⟨a9, c9, he9, hr9, hT9⟩ := hL5.list (by omega)
        simp only [Value.slice.injEq, true_and] at he9
        obtain ⟨rfl, rfl⟩ := he9
        have KQ := Prove_any fl a7 c7 z az cz V5 r2 hT9 hr9 (hZ.out.below hL5.bel) H2.out
        rw [HE2.out] at KQ
        unfold vty at KQ
        go_simp
        (with_reducible refine KQ.mono ?_)
        clear KQ hT9 hr9
        rintro e9 V6 ⟨p9, x9, rfl, hb9, _, _⟩
        dsimp only
        unfold vpf
        have hL6 := hL5.below hb9
        refine hK.out _ _ ?_ (fun hHeld => ?_)
        · exact hL6.bel
        clear hK K
        try simp only [Act.put, List.setIfInBounds_toArray, List.set_cons_zero, List.set_cons_succ]
        refine tk (v := ?_) 8 o8_15_8 (by rfl) ?_ ?_
        case refine_2 => unfold o8_15_8; intro w hSw; obtain ⟨i0, i1, i2, j0, j1, j2⟩ := HCE.out _ hSw; go_simp; (try with_reducible rfl)
        simp only [o8_15_8, Act.put, List.setIfInBounds_toArray, List.set_cons_zero, List.set_cons_succ]
        refine tk (v := ?_) 9 o8_15_9 (by rfl) ?_ ?_
        case refine_2 => unfold o8_15_9; intro w hSw; obtain ⟨i0, i1, i2, j0, j1, j2⟩ := HCE.out _ hSw; go_simp; (try with_reducible rfl)
        simp only [o8_15_9, Act.put, List.setIfInBounds_toArray, List.set_cons_zero, List.set_cons_succ]
        refine tk (v := ?_) 10 o8_15_10 (by rfl) ?_ ?_
        case refine_2 => unfold o8_15_10; intro w hSw; obtain ⟨i0, i1, i2, j0, j1, j2⟩ := HCE.out _ hSw; go_simp; (try with_reducible rfl)
        simp only [o8_15_10, Act.put, List.setIfInBounds_toArray, List.set_cons_zero, List.set_cons_succ]
        refine tk (v := ?_) 11 o8_15_11 (by rfl) ?_ ?_
        case refine_2 => unfold o8_15_11; intro w hSw; obtain ⟨i0, i1, i2, j0, j1, j2⟩ := HCE.out _ hSw; go_simp; (try with_reducible rfl)
        simp only [o8_15_11, Act.put, List.setIfInBounds_toArray, List.set_cons_zero, List.set_cons_succ]
        refine wpAnyH_ready (rs := [13]) (by kernel_rfl) (by simp) ?_
        refine (AllReadyH.cons (o := o8_15_13) rfl (fun K hK => ?_) AllReadyH.nil)
        unfold o8_15_13
        obtain ⟨hBge, hBr, _⟩ := hL6.fp _ rfl
        have m0 := cell_of_row _ _ 0 _ _ _ hBr
        have f0 := frozen_of_row _ _ 0 _ 37 hBr
        have m1 := cell_of_row _ _ 1 _ _ _ hBr
        have f1 := frozen_of_row _ _ 1 _ 37 hBr
        have m2 := cell_of_row _ _ 2 _ _ _ hBr
        have f2 := frozen_of_row _ _ 2 _ 37 hBr
        have m3 := cell_of_row _ _ 3 _ _ _ hBr
        have f3 := frozen_of_row _ _ 3 _ 37 hBr
        have m4 := cell_of_row _ _ 4 _ _ _ hBr
        have f4 := frozen_of_row _ _ 4 _ 37 hBr
        have m5 := cell_of_row _ _ 5 _ _ _ hBr
        have f5 := frozen_of_row _ _ 5 _ 37 hBr
        have m6 := cell_of_row _ _ 6 _ _ _ hBr
        have f6 := frozen_of_row _ _ 6 _ 37 hBr
        have m7 := cell_of_row _ _ 7 _ _ _ hBr
        have f7 := frozen_of_row _ _ 7 _ 37 hBr
        go_simp
        have hbF := below8 hL6.bel hBge (.int .i64 p9.step) (.slice x9.la p9.left.length x9.lc) (.int .i64 p9.goal.kind) (.int .i64 p9.goal.n) (.slice x9.ga p9.goal.kids.length x9.gc) (.int .i64 p9.ix) (.int .i64 p9.n) (.slice x9.ka p9.kids.length x9.kc)
        refine hK.out _ _ ?_ (fun hHeld => ?_)
        · exact hbF
        clear hK K
        try simp only [Act.put, List.setIfInBounds_toArray, List.set_cons_zero, List.set_cons_succ]
        refine tk (v := ?_) 14 o8_15_14 (by rfl) ?_ ?_
        case refine_2 => unfold o8_15_14; intro w hSw; obtain ⟨i0, i1, i2, j0, j1, j2⟩ := HCE.out _ hSw; go_simp; (try with_reducible rfl)
        simp only [o8_15_14, Act.put, List.setIfInBounds_toArray, List.set_cons_zero, List.set_cons_succ]
        refine tk (v := ?_) 15 o8_15_15 (by rfl) ?_ ?_
        case refine_2 => unfold o8_15_15; intro w hSw; obtain ⟨i0, i1, i2, j0, j1, j2⟩ := HCE.out _ hSw; go_simp; (try with_reducible rfl)
        simp only [o8_15_15, Act.put, List.setIfInBounds_toArray, List.set_cons_zero, List.set_cons_succ]
        refine wpAnyH_done (by kernel_rfl) ?_ _
        exact NoPanic.normal (hQ _ _ _ _ _ _ _ _ _ _ _ _ _ _ hbF)
  · skip
    unfold o8_15_4
    go_simp
    have hL1 := hL0.mkone
    refine hK.out _ _ ?_ (fun hHeld => ?_)
    · exact hL1.bel
    clear hK K
    try simp only [Act.put, List.setIfInBounds_toArray, List.set_cons_zero, List.set_cons_succ]
    generalize hV : V0.alloc (.cells #[.int .i64 x.kind, .int .i64 x.n, .slice ax x.kids.length cx] 24) = V1 at *
    clear hV
    refine wpAnyH_ready (rs := [0, 12]) (by kernel_rfl) (by simp) ?_
    refine (AllReadyH.cons (o := o8_15_0) rfl (fun K hK => ?_) (AllReadyH.cons (o := o8_15_12) rfl (fun K hK => ?_) AllReadyH.nil))
    · skip
      unfold o8_15_0
      go_simp
      have hL2 := hL1.mkrow
      refine hK.out _ _ ?_ (fun hHeld => ?_)
      · exact hL2.bel
      clear hK K
      try simp only [Act.put, List.setIfInBounds_toArray, List.set_cons_zero, List.set_cons_succ]
      generalize hV : V1.alloc (.cells #[] 24) = V2 at *
      clear hV
      refine wpAnyH_ready (rs := [2, 12]) (by kernel_rfl) (by simp) ?_
      refine (AllReadyH.cons (o := o8_15_2) rfl (fun K hK => ?_) (AllReadyH.cons (o := o8_15_12) rfl (fun K hK => ?_) AllReadyH.nil))
      · skip
        unfold o8_15_2
        obtain ⟨xs0, ho0, hr0⟩ := hL2.fr _ _ rfl
        refine step_src wq rfl (.tmp 118) (.tmp 119) rfl wq.heap.size _ _ xs0 rfl ho0 cD rfl hsD.out hL2.bel (by simp; omega) hL2.bel.size ?_
        intro v0_ V3 ho_ hg_ hat_
        have hL3 := hL2.app ho0 hr0 hsD.out.2.2.1 ho_ hg_ hat_
        clear ho_ hg_ hat_ ho0 hr0
        refine hK.out _ _ ?_ (fun hHeld => ?_)
        · exact hL3.bel
        clear hK K
        try simp only [Act.put, List.setIfInBounds_toArray, List.set_cons_zero, List.set_cons_succ]
        refine wpAnyH_ready (rs := [5, 12]) (by kernel_rfl) (by simp) ?_
        refine (AllReadyH.cons (o := o8_15_5) rfl (fun K hK => ?_) (AllReadyH.cons (o := o8_15_12) rfl (fun K hK => ?_) AllReadyH.nil))
        · skip
          unfold o8_15_5
          obtain ⟨xs1, ho1, hr1⟩ := hL3.fr _ _ rfl
          obtain ⟨_, hB1, _⟩ := hL3.fo _ rfl
          refine step_append_at rfl (.tmp 120) (.tmp 122) 22 rfl wq.heap.size 24 i24 (.agg #[.int .i64 0, .int .i64 0, .slice none 0 0]) 3 40 Try.underlying22 hi24 hz240 hz241 hz242 rfl (by decide) _ _ xs1 rfl ho1 ⟨_, 0, none⟩ 1 1 (tyc x ax cx) rfl rfl (cell_tyc hB1) (tyc_one x ax cx) (by unfold maxLen; simp; omega) (by simp; omega) hL3.bel.size ?_
          intro v1_ V4 ho_ hg_ hat_
          have hL4 := hL3.app (M := [x]) ho1 hr1 (row_tyc hX.out) ho_ hg_ hat_
          clear ho_ hg_ hat_ ho1 hr1
          rw [HJN.out] at hL4
          obtain ⟨a7, c7, rfl, _, _⟩ := hL4.list (by omega)
          refine hK.out _ _ ?_ (fun hHeld => ?_)
          · exact hL4.bel
          clear hK K
          try simp only [Act.put, List.setIfInBounds_toArray, List.set_cons_zero, List.set_cons_succ]
          refine wpAnyH_ready (rs := [7, 12]) (by kernel_rfl) (by simp) ?_
          refine (AllReadyH.cons (o := o8_15_7) rfl (fun K hK => ?_) (AllReadyH.cons (o := o8_15_12) rfl (fun K hK => ?_) AllReadyH.nil))
          · skip
            unfold o8_15_7
            obtain ⟨a9, c9, he9, hr9, hT9⟩ := hL4.list (by omega)
            simp only [Value.slice.injEq, true_and] at he9
            obtain ⟨rfl, rfl⟩ := he9
            have KQ := Prove_any fl a7 c7 z az cz V4 r2 hT9 hr9 (hZ.out.below hL4.bel) H2.out
            rw [HE2.out] at KQ
            unfold vty at KQ
            go_simp
            (with_reducible refine KQ.mono ?_)
            clear KQ hT9 hr9
            rintro e9 V5 ⟨p9, x9, rfl, hb9, _, _⟩
            dsimp only
            unfold vpf
            have hL5 := hL4.below hb9
            refine hK.out _ _ ?_ (fun hHeld => ?_)
            · exact hL5.bel
            clear hK K
            try simp only [Act.put, List.setIfInBounds_toArray, List.set_cons_zero, List.set_cons_succ]
            refine tk (v := ?_) 8 o8_15_8 (by rfl) ?_ ?_
            case refine_2 => unfold o8_15_8; intro w hSw; obtain ⟨i0, i1, i2, j0, j1, j2⟩ := HCE.out _ hSw; go_simp; (try with_reducible rfl)
            simp only [o8_15_8, Act.put, List.setIfInBounds_toArray, List.set_cons_zero, List.set_cons_succ]
            refine tk (v := ?_) 9 o8_15_9 (by rfl) ?_ ?_
            case refine_2 => unfold o8_15_9; intro w hSw; obtain ⟨i0, i1, i2, j0, j1, j2⟩ := HCE.out _ hSw; go_simp; (try with_reducible rfl)
            simp only [o8_15_9, Act.put, List.setIfInBounds_toArray, List.set_cons_zero, List.set_cons_succ]
            refine tk (v := ?_) 10 o8_15_10 (by rfl) ?_ ?_
            case refine_2 => unfold o8_15_10; intro w hSw; obtain ⟨i0, i1, i2, j0, j1, j2⟩ := HCE.out _ hSw; go_simp; (try with_reducible rfl)
            simp only [o8_15_10, Act.put, List.setIfInBounds_toArray, List.set_cons_zero, List.set_cons_succ]
            refine tk (v := ?_) 11 o8_15_11 (by rfl) ?_ ?_
            case refine_2 => unfold o8_15_11; intro w hSw; obtain ⟨i0, i1, i2, j0, j1, j2⟩ := HCE.out _ hSw; go_simp; (try with_reducible rfl)
            simp only [o8_15_11, Act.put, List.setIfInBounds_toArray, List.set_cons_zero, List.set_cons_succ]
            refine wpAnyH_ready (rs := [12]) (by kernel_rfl) (by simp) ?_
            refine (AllReadyH.cons (o := o8_15_12) rfl (fun K hK => ?_) AllReadyH.nil)
            unfold o8_15_12
            go_simp
            have hL6 := hL5.mkpr
            refine hK.out _ _ ?_ (fun hHeld => ?_)
            · exact hL6.bel
            clear hK K
            try simp only [Act.put, List.setIfInBounds_toArray, List.set_cons_zero, List.set_cons_succ]
            generalize hV : V5.alloc (.cells #[.int .i64 0, .slice none 0 0, .int .i64 0, .int .i64 0, .slice none 0 0, .int .i64 0, .int .i64 0, .slice none 0 0] 37) = V6 at *
            clear hV
            refine wpAnyH_ready (rs := [13]) (by kernel_rfl) (by simp) ?_
            refine (AllReadyH.cons (o := o8_15_13) rfl (fun K hK => ?_) AllReadyH.nil)
            unfold o8_15_13
            obtain ⟨hBge, hBr, _⟩ := hL6.fp _ rfl
            have m0 := cell_of_row _ _ 0 _ _ _ hBr
            have f0 := frozen_of_row _ _ 0 _ 37 hBr
            have m1 := cell_of_row _ _ 1 _ _ _ hBr
            have f1 := frozen_of_row _ _ 1 _ 37 hBr
            have m2 := cell_of_row _ _ 2 _ _ _ hBr
            have f2 := frozen_of_row _ _ 2 _ 37 hBr
            have m3 := cell_of_row _ _ 3 _ _ _ hBr
            have f3 := frozen_of_row _ _ 3 _ 37 hBr
            have m4 := cell_of_row _ _ 4 _ _ _ hBr
            have f4 := frozen_of_row _ _ 4 _ 37 hBr
            have m5 := cell_of_row _ _ 5 _ _ _ hBr
            have f5 := frozen_of_row _ _ 5 _ 37 hBr
            have m6 := cell_of_row _ _ 6 _ _ _ hBr
            have f6 := frozen_of_row _ _ 6 _ 37 hBr
            have m7 := cell_of_row _ _ 7 _ _ _ hBr
            have f7 := frozen_of_row _ _ 7 _ 37 hBr
            go_simp
            have hbF := below8 hL6.bel hBge (.int .i64 p9.step) (.slice x9.la p9.left.length x9.lc) (.int .i64 p9.goal.kind) (.int .i64 p9.goal.n) (.slice x9.ga p9.goal.kids.length x9.gc) (.int .i64 p9.ix) (.int .i64 p9.n) (.slice x9.ka p9.kids.length x9.kc)
            refine hK.out _ _ ?_ (fun hHeld => ?_)
            · exact hbF
            clear hK K
            try simp only [Act.put, List.setIfInBounds_toArray, List.set_cons_zero, List.set_cons_succ]
            refine tk (v := ?_) 14 o8_15_14 (by rfl) ?_ ?_
            case refine_2 => unfold o8_15_14; intro w hSw; obtain ⟨i0, i1, i2, j0, j1, j2⟩ := HCE.out _ hSw; go_simp; (try with_reducible rfl)
            simp only [o8_15_14, Act.put, List.setIfInBounds_toArray, List.set_cons_zero, List.set_cons_succ]
            refine tk (v := ?_) 15 o8_15_15 (by rfl) ?_ ?_
            case refine_2 => unfold o8_15_15; intro w hSw; obtain ⟨i0, i1, i2, j0, j1, j2⟩ := HCE.out _ hSw; go_simp; (try with_reducible rfl)
            simp only [o8_15_15, Act.put, List.setIfInBounds_toArray, List.set_cons_zero, List.set_cons_succ]
            refine wpAnyH_done (by kernel_rfl) ?_ _
            exact NoPanic.normal (hQ _ _ _ _ _ _ _ _ _ _ _ _ _ _ hbF)
          · skip
            unfold o8_15_12
            go_simp
            have hL5 := hL4.mkpr
            refine hK.out _ _ ?_ (fun hHeld => ?_)
            · exact hL5.bel
            clear hK K
            try simp only [Act.put, List.setIfInBounds_toArray, List.set_cons_zero, List.set_cons_succ]
            generalize hV : V4.alloc (.cells #[.int .i64 0, .slice none 0 0, .int .i64 0, .int .i64 0, .slice none 0 0, .int .i64 0, .int .i64 0, .slice none 0 0] 37) = V5 at *
            clear hV
            refine wpAnyH_ready (rs := [7]) (by kernel_rfl) (by simp) ?_
            refine (AllReadyH.cons (o := o8_15_7) rfl (fun K hK => ?_) AllReadyH.nil)
            unfold o8_15_7
            obtain ⟨a9, c9, he9, hr9, hT9⟩ := hL5.list (by omega)
            simp only [Value.slice.injEq, true_and] at he9
            obtain ⟨rfl, rfl⟩ := he9
            have KQ := Prove_any fl a7 c7 z az cz V5 r2 hT9 hr9 (hZ.out.below hL5.bel) H2.out
            rw [HE2.out] at KQ
            unfold vty at KQ
            go_simp
            (with_reducible refine KQ.mono ?_)
            clear KQ hT9 hr9
            rintro e9 V6 ⟨p9, x9, rfl, hb9, _, _⟩
            dsimp only
            unfold vpf
            have hL6 := hL5.below hb9
            refine hK.out _ _ ?_ (fun hHeld => ?_)
            · exact hL6.bel
            clear hK K
            try simp only [Act.put, List.setIfInBounds_toArray, List.set_cons_zero, List.set_cons_succ]
            refine tk (v := ?_) 8 o8_15_8 (by rfl) ?_ ?_
            case refine_2 => unfold o8_15_8; intro w hSw; obtain ⟨i0, i1, i2, j0, j1, j2⟩ := HCE.out _ hSw; go_simp; (try with_reducible rfl)
            simp only [o8_15_8, Act.put, List.setIfInBounds_toArray, List.set_cons_zero, List.set_cons_succ]
            refine tk (v := ?_) 9 o8_15_9 (by rfl) ?_ ?_
            case refine_2 => unfold o8_15_9; intro w hSw; obtain ⟨i0, i1, i2, j0, j1, j2⟩ := HCE.out _ hSw; go_simp; (try with_reducible rfl)
            simp only [o8_15_9, Act.put, List.setIfInBounds_toArray, List.set_cons_zero, List.set_cons_succ]
            refine tk (v := ?_) 10 o8_15_10 (by rfl) ?_ ?_
            case refine_2 => unfold o8_15_10; intro w hSw; obtain ⟨i0, i1, i2, j0, j1, j2⟩ := HCE.out _ hSw; go_simp; (try with_reducible rfl)
            simp only [o8_15_10, Act.put, List.setIfInBounds_toArray, List.set_cons_zero, List.set_cons_succ]
            refine tk (v := ?_) 11 o8_15_11 (by rfl) ?_ ?_
            case refine_2 => unfold o8_15_11; intro w hSw; obtain ⟨i0, i1, i2, j0, j1, j2⟩ := HCE.out _ hSw; go_simp; (try with_reducible rfl)
            simp only [o8_15_11, Act.put, List.setIfInBounds_toArray, List.set_cons_zero, List.set_cons_succ]
            refine wpAnyH_ready (rs := [13]) (by kernel_rfl) (by simp) ?_
            refine (AllReadyH.cons (o := o8_15_13) rfl (fun K hK => ?_) AllReadyH.nil)
            unfold o8_15_13
            obtain ⟨hBge, hBr, _⟩ := hL6.fp _ rfl
            have m0 := cell_of_row _ _ 0 _ _ _ hBr
            have f0 := frozen_of_row _ _ 0 _ 37 hBr
            have m1 := cell_of_row _ _ 1 _ _ _ hBr
            have f1 := frozen_of_row _ _ 1 _ 37 hBr
            have m2 := cell_of_row _ _ 2 _ _ _ hBr
            have f2 := frozen_of_row _ _ 2 _ 37 hBr
            have m3 := cell_of_row _ _ 3 _ _ _ hBr
            have f3 := frozen_of_row _ _ 3 _ 37 hBr
            have m4 := cell_of_row _ _ 4 _ _ _ hBr
            have f4 := frozen_of_row _ _ 4 _ 37 hBr
            have m5 := cell_of_row _ _ 5 _ _ _ hBr
            have f5 := frozen_of_row _ _ 5 _ 37 hBr
            have m6 := cell_of_row _ _ 6 _ _ _ hBr
            have f6 := frozen_of_row _ _ 6 _ 37 hBr
            have m7 := cell_of_row _ _ 7 _ _ _ hBr
            have f7 := frozen_of_row _ _ 7 _ 37 hBr
            go_simp
            have hbF := below8 hL6.bel hBge (.int .i64 p9.step) (.slice x9.la p9.left.length x9.lc) (.int .i64 p9.goal.kind) (.int .i64 p9.goal.n) (.slice x9.ga p9.goal.kids.length x9.gc) (.int .i64 p9.ix) (.int .i64 p9.n) (.slice x9.ka p9.kids.length x9.kc)
            refine hK.out _ _ ?_ (fun hHeld => ?_)
            · exact hbF
            clear hK K
            try simp only [Act.put, List.setIfInBounds_toArray, List.set_cons_zero, List.set_cons_succ]
            refine tk (v := ?_) 14 o8_15_14 (by rfl) ?_ ?_
            case refine_2 => unfold o8_15_14; intro w hSw; obtain ⟨i0, i1, i2, j0, j1, j2⟩ := HCE.out _ hSw; go_simp; (try with_reducible rfl)
            simp only [o8_15_14, Act.put, List.setIfInBounds_toArray, List.set_cons_zero, List.set_cons_succ]
            refine tk (v := ?_) 15 o8_15_15 (by rfl) ?_ ?_
            case refine_2 => unfold o8_15_15; intro w hSw; obtain ⟨i0, i1, i2, j0, j1, j2⟩ := HCE.out _ hSw; go_simp; (try with_reducible rfl)
            simp only [o8_15_15, Act.put, List.setIfInBounds_toArray, List.set_cons_zero, List.set_cons_succ]
            refine wpAnyH_done (by kernel_rfl) ?_ _
            exact NoPanic.normal (hQ _ _ _ _ _ _ _ _ _ _ _ _ _ _ hbF)
        · skip
          unfold o8_15_12
          go_simp
          have hL4 := hL3.mkpr
          refine hK.out _ _ ?_ (fun hHeld => ?_)
          · exact hL4.bel
          clear hK K
          try simp only [Act.put, List.setIfInBounds_toArray, List.set_cons_zero, List.set_cons_succ]
          generalize hV : V3.alloc (.cells #[.int .i64 0, .slice none 0 0, .int .i64 0, .int .i64 0, .slice none 0 0, .int .i64 0, .int .i64 0, .slice none 0 0] 37) = V4 at *
          clear hV
          refine wpAnyH_ready (rs := [5]) (by kernel_rfl) (by simp) ?_
          refine (AllReadyH.cons (o := o8_15_5) rfl (fun K hK => ?_) AllReadyH.nil)
          unfold o8_15_5
          obtain ⟨xs1, ho1, hr1⟩ := hL4.fr _ _ rfl
          obtain ⟨_, hB1, _⟩ := hL4.fo _ rfl
          refine step_append_at rfl (.tmp 120) (.tmp 122) 22 rfl wq.heap.size 24 i24 (.agg #[.int .i64 0, .int .i64 0, .slice none 0 0]) 3 40 Try.underlying22 hi24 hz240 hz241 hz242 rfl (by decide) _ _ xs1 rfl ho1 ⟨_, 0, none⟩ 1 1 (tyc x ax cx) rfl rfl (cell_tyc hB1) (tyc_one x ax cx) (by unfold maxLen; simp; omega) (by simp; omega) hL4.bel.size ?_
          intro v1_ V5 ho_ hg_ hat_
          have hL5 := hL4.app (M := [x]) ho1 hr1 (row_tyc hX.out) ho_ hg_ hat_
          clear ho_ hg_ hat_ ho1 hr1
          rw [HJN.out] at hL5
          obtain ⟨a7, c7, rfl, _, _⟩ := hL5.list (by omega)
          refine hK.out _ _ ?_ (fun hHeld => ?_)
          · exact hL5.bel
          clear hK K
          try simp only [Act.put, List.setIfInBounds_toArray, List.set_cons_zero, List.set_cons_succ]
          refine wpAnyH_ready (rs := [7]) (by kernel_rfl) (by simp) ?_
          refine (AllReadyH.cons (o := o8_15_7) rfl (fun K hK => ?_) AllReadyH.nil)
          unfold o8_15_7
          obtain ⟨a9, c9, he9, hr9, hT9⟩ := hL5.list (by omega)
          simp only [Value.slice.injEq, true_and] at he9
          obtain ⟨rfl, rfl⟩ := he9
          have KQ := Prove_any fl a7 c7 z az cz V5 r2 hT9 hr9 (hZ.out.below hL5.bel) H2.out
          rw [HE2.out] at KQ
          unfold vty at KQ
          go_simp
          (with_reducible refine KQ.mono ?_)
          clear KQ hT9 hr9
          rintro e9 V6 ⟨p9, x9, rfl, hb9, _, _⟩
          dsimp only
          unfold vpf
          have hL6 := hL5.below hb9
          refine hK.out _ _ ?_ (fun hHeld => ?_)
          · exact hL6.bel
          clear hK K
          try simp only [Act.put, List.setIfInBounds_toArray, List.set_cons_zero, List.set_cons_succ]
          refine tk (v := ?_) 8 o8_15_8 (by rfl) ?_ ?_
          case refine_2 => unfold o8_15_8; intro w hSw; obtain ⟨i0, i1, i2, j0, j1, j2⟩ := HCE.out _ hSw; go_simp; (try with_reducible rfl)
          simp only [o8_15_8, Act.put, List.setIfInBounds_toArray, List.set_cons_zero, List.set_cons_succ]
          refine tk (v := ?_) 9 o8_15_9 (by rfl) ?_ ?_
          case refine_2 => unfold o8_15_9; intro w hSw; obtain ⟨i0, i1, i2, j0, j1, j2⟩ := HCE.out _ hSw; go_simp; (try with_reducible rfl)
          simp only [o8_15_9, Act.put, List.setIfInBounds_toArray, List.set_cons_zero, List.set_cons_succ]
          refine tk (v := ?_) 10 o8_15_10 (by rfl) ?_ ?_
          case refine_2 => unfold o8_15_10; intro w hSw; obtain ⟨i0, i1, i2, j0, j1, j2⟩ := HCE.out _ hSw; go_simp; (try with_reducible rfl)
          simp only [o8_15_10, Act.put, List.setIfInBounds_toArray, List.set_cons_zero, List.set_cons_succ]
          refine tk (v := ?_) 11 o8_15_11 (by rfl) ?_ ?_
          case refine_2 => unfold o8_15_11; intro w hSw; obtain ⟨i0, i1, i2, j0, j1, j2⟩ := HCE.out _ hSw; go_simp; (try with_reducible rfl)
          simp only [o8_15_11, Act.put, List.setIfInBounds_toArray, List.set_cons_zero, List.set_cons_succ]
          refine wpAnyH_ready (rs := [13]) (by kernel_rfl) (by simp) ?_
          refine (AllReadyH.cons (o := o8_15_13) rfl (fun K hK => ?_) AllReadyH.nil)
          unfold o8_15_13
          obtain ⟨hBge, hBr, _⟩ := hL6.fp _ rfl
          have m0 := cell_of_row _ _ 0 _ _ _ hBr
          have f0 := frozen_of_row _ _ 0 _ 37 hBr
          have m1 := cell_of_row _ _ 1 _ _ _ hBr
          have f1 := frozen_of_row _ _ 1 _ 37 hBr
          have m2 := cell_of_row _ _ 2 _ _ _ hBr
          have f2 := frozen_of_row _ _ 2 _ 37 hBr
          have m3 := cell_of_row _ _ 3 _ _ _ hBr
          have f3 := frozen_of_row _ _ 3 _ 37 hBr
          have m4 := cell_of_row _ _ 4 _ _ _ hBr
          have f4 := frozen_of_row _ _ 4 _ 37 hBr
          have m5 := cell_of_row _ _ 5 _ _ _ hBr
          have f5 := frozen_of_row _ _ 5 _ 37 hBr
          have m6 := cell_of_row _ _ 6 _ _ _ hBr
          have f6 := frozen_of_row _ _ 6 _ 37 hBr
          have m7 := cell_of_row _ _ 7 _ _ _ hBr
          have f7 := frozen_of_row _ _ 7 _ 37 hBr
          go_simp
          have hbF := below8 hL6.bel hBge (.int .i64 p9.step) (.slice x9.la p9.left.length x9.lc) (.int .i64 p9.goal.kind) (.int .i64 p9.goal.n) (.slice x9.ga p9.goal.kids.length x9.gc) (.int .i64 p9.ix) (.int .i64 p9.n) (.slice x9.ka p9.kids.length x9.kc)
          refine hK.out _ _ ?_ (fun hHeld => ?_)
          · exact hbF
          clear hK K
          try simp only [Act.put, List.setIfInBounds_toArray, List.set_cons_zero, List.set_cons_succ]
          refine tk (v := ?_) 14 o8_15_14 (by rfl) ?_ ?_
          case refine_2 => unfold o8_15_14; intro w hSw; obtain ⟨i0, i1, i2, j0, j1, j2⟩ := HCE.out _ hSw; go_simp; (try with_reducible rfl)
          simp only [o8_15_14, Act.put, List.setIfInBounds_toArray, List.set_cons_zero, List.set_cons_succ]
          refine tk (v := ?_) 15 o8_15_15 (by rfl) ?_ ?_
          case refine_2 => unfold o8_15_15; intro w hSw; obtain ⟨i0, i1, i2, j0, j1, j2⟩ := HCE.out _ hSw; go_simp; (try with_reducible rfl)
          simp only [o8_15_15, Act.put, List.setIfInBounds_toArray, List.set_cons_zero, List.set_cons_succ]
          refine wpAnyH_done (by kernel_rfl) ?_ _
          exact NoPanic.normal (hQ _ _ _ _ _ _ _ _ _ _ _ _ _ _ hbF)
      · skip
        unfold o8_15_12
        go_simp
        have hL3 := hL2.mkpr
        refine hK.out _ _ ?_ (fun hHeld => ?_)
        · exact hL3.bel
        clear hK K
        try simp only [Act.put, List.setIfInBounds_toArray, List.set_cons_zero, List.set_cons_succ]
        generalize hV : V2.alloc (.cells #[.int .i64 0, .slice none 0 0, .int .i64 0, .int .i64 0, .slice none 0 0, .int .i64 0, .int .i64 0, .slice none 0 0] 37) = V3 at *
        clear hV
        refine wpAnyH_ready (rs := [2]) (by kernel_rfl) (by simp) ?_
        refine (AllReadyH.cons (o := o8_15_2) rfl (fun K hK => ?_) AllReadyH.nil)
        unfold o8_15_2
        obtain ⟨xs0, ho0, hr0⟩ := hL3.fr _ _ rfl
        refine step_src wq rfl (.tmp 118) (.tmp 119) rfl wq.heap.size _ _ xs0 rfl ho0 cD rfl hsD.out hL3.bel (by simp; omega) hL3.bel.size ?_
        intro v0_ V4 ho_ hg_ hat_
        have hL4 := hL3.app ho0 hr0 hsD.out.2.2.1 ho_ hg_ hat_
        clear ho_ hg_ hat_ ho0 hr0
        refine hK.out _ _ ?_ (fun hHeld => ?_)
        · exact hL4.bel
        clear hK K
        try simp only [Act.put, List.setIfInBounds_toArray, List.set_cons_zero, List.set_cons_succ]
        refine wpAnyH_ready (rs := [5]) (by kernel_rfl) (by simp) ?_
        refine (AllReadyH.cons (o := o8_15_5) rfl (fun K hK => ?_) AllReadyH.nil)
        unfold o8_15_5
        obtain ⟨xs1, ho1, hr1⟩ := hL4.fr _ _ rfl
        obtain ⟨_, hB1, _⟩ := hL4.fo _ rfl
        refine step_append_at rfl (.tmp 120) (.tmp 122) 22 rfl wq.heap.size 24 i24 (.agg #[.int .i64 0, .int .i64 0, .slice none 0 0]) 3 40 Try.underlying22 hi24 hz240 hz241 hz242 rfl (by decide) _ _ xs1 rfl ho1 ⟨_, 0, none⟩ 1 1 (tyc x ax cx) rfl rfl (cell_tyc hB1) (tyc_one x ax cx) (by unfold maxLen; simp; omega) (by simp; omega) hL4.bel.size ?_
        intro v1_ V5 ho_ hg_ hat_
        have hL5 := hL4.app (M := [x]) ho1 hr1 (row_tyc hX.out) ho_ hg_ hat_
        clear ho_ hg_ hat_ ho1 hr1
        rw [HJN.out] at hL5
        obtain ⟨a7, c7, rfl, _, _⟩ := hL5.list (by omega)
        refine hK.out _ _ ?_ (fun hHeld => ?_)
        · exact hL5.bel
        clear hK K
        try simp only [Act.put, List.setIfInBounds_toArray, List.set_cons_zero, List.set_cons_succ]
        refine wpAnyH_ready (rs := [7]) (by kernel_rfl) (by simp) ?_
        refine (AllReadyH.cons (o := o8_15_7) rfl (fun K hK => ?_) AllReadyH.nil)
        unfold o8_15_7
        obtain ⟨a9, c9, he9, hr9, hT9⟩ := hL5.list (by omega)
        simp only [Value.slice.injEq, true_and] at he9
        obtain ⟨rfl, rfl⟩ := he9
        have KQ := Prove_any fl a7 c7 z az cz V5 r2 hT9 hr9 (hZ.out.below hL5.bel) H2.out
        rw [HE2.out] at KQ
        unfold vty at KQ
        go_simp
        (with_reducible refine KQ.mono ?_)
        clear KQ hT9 hr9
        rintro e9 V6 ⟨p9, x9, rfl, hb9, _, _⟩
        dsimp only
        unfold vpf
        have hL6 := hL5.below hb9
        refine hK.out _ _ ?_ (fun hHeld => ?_)
        · exact hL6.bel
        clear hK K
        try simp only [Act.put, List.setIfInBounds_toArray, List.set_cons_zero, List.set_cons_succ]
        refine tk (v := ?_) 8 o8_15_8 (by rfl) ?_ ?_
        case refine_2 => unfold o8_15_8; intro w hSw; obtain ⟨i0, i1, i2, j0, j1, j2⟩ := HCE.out _ hSw; go_simp; (try with_reducible rfl)
        simp only [o8_15_8, Act.put, List.setIfInBounds_toArray, List.set_cons_zero, List.set_cons_succ]
        refine tk (v := ?_) 9 o8_15_9 (by rfl) ?_ ?_
        case refine_2 => unfold o8_15_9; intro w hSw; obtain ⟨i0, i1, i2, j0, j1, j2⟩ := HCE.out _ hSw; go_simp; (try with_reducible rfl)
        simp only [o8_15_9, Act.put, List.setIfInBounds_toArray, List.set_cons_zero, List.set_cons_succ]
        refine tk (v := ?_) 10 o8_15_10 (by rfl) ?_ ?_
        case refine_2 => unfold o8_15_10; intro w hSw; obtain ⟨i0, i1, i2, j0, j1, j2⟩ := HCE.out _ hSw; go_simp; (try with_reducible rfl)
        simp only [o8_15_10, Act.put, List.setIfInBounds_toArray, List.set_cons_zero, List.set_cons_succ]
        refine tk (v := ?_) 11 o8_15_11 (by rfl) ?_ ?_
        case refine_2 => unfold o8_15_11; intro w hSw; obtain ⟨i0, i1, i2, j0, j1, j2⟩ := HCE.out _ hSw; go_simp; (try with_reducible rfl)
        simp only [o8_15_11, Act.put, List.setIfInBounds_toArray, List.set_cons_zero, List.set_cons_succ]
        refine wpAnyH_ready (rs := [13]) (by kernel_rfl) (by simp) ?_
        refine (AllReadyH.cons (o := o8_15_13) rfl (fun K hK => ?_) AllReadyH.nil)
        unfold o8_15_13
        obtain ⟨hBge, hBr, _⟩ := hL6.fp _ rfl
        have m0 := cell_of_row _ _ 0 _ _ _ hBr
        have f0 := frozen_of_row _ _ 0 _ 37 hBr
        have m1 := cell_of_row _ _ 1 _ _ _ hBr
        have f1 := frozen_of_row _ _ 1 _ 37 hBr
        have m2 := cell_of_row _ _ 2 _ _ _ hBr
        have f2 := frozen_of_row _ _ 2 _ 37 hBr
        have m3 := cell_of_row _ _ 3 _ _ _ hBr
        have f3 := frozen_of_row _ _ 3 _ 37 hBr
        have m4 := cell_of_row _ _ 4 _ _ _ hBr
        have f4 := frozen_of_row _ _ 4 _ 37 hBr
        have m5 := cell_of_row _ _ 5 _ _ _ hBr
        have f5 := frozen_of_row _ _ 5 _ 37 hBr
        have m6 := cell_of_row _ _ 6 _ _ _ hBr
        have f6 := frozen_of_row _ _ 6 _ 37 hBr
        have m7 := cell_of_row _ _ 7 _ _ _ hBr
        have f7 := frozen_of_row _ _ 7 _ 37 hBr
        go_simp
        have hbF := below8 hL6.bel hBge (.int .i64 p9.step) (.slice x9.la p9.left.length x9.lc) (.int .i64 p9.goal.kind) (.int .i64 p9.goal.n) (.slice x9.ga p9.goal.kids.length x9.gc) (.int .i64 p9.ix) (.int .i64 p9.n) (.slice x9.ka p9.kids.length x9.kc)
        refine hK.out _ _ ?_ (fun hHeld => ?_)
        · exact hbF
        clear hK K
        try simp only [Act.put, List.setIfInBounds_toArray, List.set_cons_zero, List.set_cons_succ]
        refine tk (v := ?_) 14 o8_15_14 (by rfl) ?_ ?_
        case refine_2 => unfold o8_15_14; intro w hSw; obtain ⟨i0, i1, i2, j0, j1, j2⟩ := HCE.out _ hSw; go_simp; (try with_reducible rfl)
        simp only [o8_15_14, Act.put, List.setIfInBounds_toArray, List.set_cons_zero, List.set_cons_succ]
        refine tk (v := ?_) 15 o8_15_15 (by rfl) ?_ ?_
        case refine_2 => unfold o8_15_15; intro w hSw; obtain ⟨i0, i1, i2, j0, j1, j2⟩ := HCE.out _ hSw; go_simp; (try with_reducible rfl)
        simp only [o8_15_15, Act.put, List.setIfInBounds_toArray, List.set_cons_zero, List.set_cons_succ]
        refine wpAnyH_done (by kernel_rfl) ?_ _
        exact NoPanic.normal (hQ _ _ _ _ _ _ _ _ _ _ _ _ _ _ hbF)
    · skip
      unfold o8_15_12
      go_simp
      have hL2 := hL1.mkpr
      refine hK.out _ _ ?_ (fun hHeld => ?_)
      · exact hL2.bel
      clear hK K
      try simp only [Act.put, List.setIfInBounds_toArray, List.set_cons_zero, List.set_cons_succ]
      generalize hV : V1.alloc (.cells #[.int .i64 0, .slice none 0 0, .int .i64 0, .int .i64 0, .slice none 0 0, .int .i64 0, .int .i64 0, .slice none 0 0] 37) = V2 at *
      clear hV
      refine wpAnyH_ready (rs := [0]) (by kernel_rfl) (by simp) ?_
      refine (AllReadyH.cons (o := o8_15_0) rfl (fun K hK => ?_) AllReadyH.nil)
      unfold o8_15_0
      go_simp
      have hL3 := hL2.mkrow
      refine hK.out _ _ ?_ (fun hHeld => ?_)
      · exact hL3.bel
      clear hK K
      try simp only [Act.put, List.setIfInBounds_toArray, List.set_cons_zero, List.set_cons_succ]
      generalize hV : V2.alloc (.cells #[] 24) = V3 at *
      clear hV
      refine wpAnyH_ready (rs := [2]) (by kernel_rfl) (by simp) ?_
      refine (AllReadyH.cons (o := o8_15_2) rfl (fun K hK => ?_) AllReadyH.nil)
      unfold o8_15_2
      obtain ⟨xs0, ho0, hr0⟩ := hL3.fr _ _ rfl
      refine step_src wq rfl (.tmp 118) (.tmp 119) rfl wq.heap.size _ _ xs0 rfl ho0 cD rfl hsD.out hL3.bel (by simp; omega) hL3.bel.size ?_
      intro v0_ V4 ho_ hg_ hat_
      have hL4 := hL3.app ho0 hr0 hsD.out.2.2.1 ho_ hg_ hat_
      clear ho_ hg_ hat_ ho0 hr0
      refine hK.out _ _ ?_ (fun hHeld => ?_)
      · exact hL4.bel
      clear hK K
      try simp only [Act.put, List.setIfInBounds_toArray, List.set_cons_zero, List.set_cons_succ]
      refine wpAnyH_ready (rs := [5]) (by kernel_rfl) (by simp) ?_
      refine (AllReadyH.cons (o := o8_15_5) rfl (fun K hK => ?_) AllReadyH.nil)
      unfold o8_15_5
      obtain ⟨xs1, ho1, hr1⟩ := hL4.fr _ _ rfl
      obtain ⟨_, hB1, _⟩ := hL4.fo _ rfl
      refine step_append_at rfl (.tmp 120) (.tmp 122) 22 rfl wq.heap.size 24 i24 (.agg #[.int .i64 0, .int .i64 0, .slice none 0 0]) 3 40 Try.underlying22 hi24 hz240 hz241 hz242 rfl (by decide) _ _ xs1 rfl ho1 ⟨_, 0, none⟩ 1 1 (tyc x ax cx) rfl rfl (cell_tyc hB1) (tyc_one x ax cx) (by unfold maxLen; simp; omega) (by simp; omega) hL4.bel.size ?_
      intro v1_ V5 ho_ hg_ hat_
      have hL5 := hL4.app (M := [x]) ho1 hr1 (row_tyc hX.out) ho_ hg_ hat_
      clear ho_ hg_ hat_ ho1 hr1
      rw [HJN.out] at hL5
      obtain ⟨a7, c7, rfl, _, _⟩ := hL5.list (by omega)
      refine hK.out _ _ ?_ (fun hHeld => ?_)
      · exact hL5.bel
      clear hK K
      try simp only [Act.put, List.setIfInBounds_toArray, List.set_cons_zero, List.set_cons_succ]
      refine wpAnyH_ready (rs := [7]) (by kernel_rfl) (by simp) ?_
      refine (AllReadyH.cons (o := o8_15_7) rfl (fun K hK => ?_) AllReadyH.nil)
      unfold o8_15_7
      obtain ⟨a9, c9, he9, hr9, hT9⟩ := hL5.list (by omega)
      simp only [Value.slice.injEq, true_and] at he9
      obtain ⟨rfl, rfl⟩ := he9
      have KQ := Prove_any fl a7 c7 z az cz V5 r2 hT9 hr9 (hZ.out.below hL5.bel) H2.out
      rw [HE2.out] at KQ
      unfold vty at KQ
      go_simp
      (with_reducible refine KQ.mono ?_)
      clear KQ hT9 hr9
      rintro e9 V6 ⟨p9, x9, rfl, hb9, _, _⟩
      dsimp only
      unfold vpf
      have hL6 := hL5.below hb9
      refine hK.out _ _ ?_ (fun hHeld => ?_)
      · exact hL6.bel
      clear hK K
      try simp only [Act.put, List.setIfInBounds_toArray, List.set_cons_zero, List.set_cons_succ]
      refine tk (v := ?_) 8 o8_15_8 (by rfl) ?_ ?_
      case refine_2 => unfold o8_15_8; intro w hSw; obtain ⟨i0, i1, i2, j0, j1, j2⟩ := HCE.out _ hSw; go_simp; (try with_reducible rfl)
      simp only [o8_15_8, Act.put, List.setIfInBounds_toArray, List.set_cons_zero, List.set_cons_succ]
      refine tk (v := ?_) 9 o8_15_9 (by rfl) ?_ ?_
      case refine_2 => unfold o8_15_9; intro w hSw; obtain ⟨i0, i1, i2, j0, j1, j2⟩ := HCE.out _ hSw; go_simp; (try with_reducible rfl)
      simp only [o8_15_9, Act.put, List.setIfInBounds_toArray, List.set_cons_zero, List.set_cons_succ]
      refine tk (v := ?_) 10 o8_15_10 (by rfl) ?_ ?_
      case refine_2 => unfold o8_15_10; intro w hSw; obtain ⟨i0, i1, i2, j0, j1, j2⟩ := HCE.out _ hSw; go_simp; (try with_reducible rfl)
      simp only [o8_15_10, Act.put, List.setIfInBounds_toArray, List.set_cons_zero, List.set_cons_succ]
      refine tk (v := ?_) 11 o8_15_11 (by rfl) ?_ ?_
      case refine_2 => unfold o8_15_11; intro w hSw; obtain ⟨i0, i1, i2, j0, j1, j2⟩ := HCE.out _ hSw; go_simp; (try with_reducible rfl)
      simp only [o8_15_11, Act.put, List.setIfInBounds_toArray, List.set_cons_zero, List.set_cons_succ]
      refine wpAnyH_ready (rs := [13]) (by kernel_rfl) (by simp) ?_
      refine (AllReadyH.cons (o := o8_15_13) rfl (fun K hK => ?_) AllReadyH.nil)
      unfold o8_15_13
      obtain ⟨hBge, hBr, _⟩ := hL6.fp _ rfl
      have m0 := cell_of_row _ _ 0 _ _ _ hBr
      have f0 := frozen_of_row _ _ 0 _ 37 hBr
      have m1 := cell_of_row _ _ 1 _ _ _ hBr
      have f1 := frozen_of_row _ _ 1 _ 37 hBr
      have m2 := cell_of_row _ _ 2 _ _ _ hBr
      have f2 := frozen_of_row _ _ 2 _ 37 hBr
      have m3 := cell_of_row _ _ 3 _ _ _ hBr
      have f3 := frozen_of_row _ _ 3 _ 37 hBr
      have m4 := cell_of_row _ _ 4 _ _ _ hBr
      have f4 := frozen_of_row _ _ 4 _ 37 hBr
      have m5 := cell_of_row _ _ 5 _ _ _ hBr
      have f5 := frozen_of_row _ _ 5 _ 37 hBr
      have m6 := cell_of_row _ _ 6 _ _ _ hBr
      have f6 := frozen_of_row _ _ 6 _ 37 hBr
      have m7 := cell_of_row _ _ 7 _ _ _ hBr
      have f7 := frozen_of_row _ _ 7 _ 37 hBr
      go_simp
      have hbF := below8 hL6.bel hBge (.int .i64 p9.step) (.slice x9.la p9.left.length x9.lc) (.int .i64 p9.goal.kind) (.int .i64 p9.goal.n) (.slice x9.ga p9.goal.kids.length x9.gc) (.int .i64 p9.ix) (.int .i64 p9.n) (.slice x9.ka p9.kids.length x9.kc)
      refine hK.out _ _ ?_ (fun hHeld => ?_)
      · exact hbF
      clear hK K
      try simp only [Act.put, List.setIfInBounds_toArray, List.set_cons_zero, List.set_cons_succ]
      refine tk (v := ?_) 14 o8_15_14 (by rfl) ?_ ?_
      case refine_2 => unfold o8_15_14; intro w hSw; obtain ⟨i0, i1, i2, j0, j1, j2⟩ := HCE.out _ hSw; go_simp; (try with_reducible rfl)
      simp only [o8_15_14, Act.put, List.setIfInBounds_toArray, List.set_cons_zero, List.set_cons_succ]
      refine tk (v := ?_) 15 o8_15_15 (by rfl) ?_ ?_
      case refine_2 => unfold o8_15_15; intro w hSw; obtain ⟨i0, i1, i2, j0, j1, j2⟩ := HCE.out _ hSw; go_simp; (try with_reducible rfl)
      simp only [o8_15_15, Act.put, List.setIfInBounds_toArray, List.set_cons_zero, List.set_cons_succ]
      refine wpAnyH_done (by kernel_rfl) ?_ _
      exact NoPanic.normal (hQ _ _ _ _ _ _ _ _ _ _ _ _ _ _ hbF)
  · skip
    unfold o8_15_12
    go_simp
    have hL1 := hL0.mkpr
    refine hK.out _ _ ?_ (fun hHeld => ?_)
    · exact hL1.bel
    clear hK K
    try simp only [Act.put, List.setIfInBounds_toArray, List.set_cons_zero, List.set_cons_succ]
    generalize hV : V0.alloc (.cells #[.int .i64 0, .slice none 0 0, .int .i64 0, .int .i64 0, .slice none 0 0, .int .i64 0, .int .i64 0, .slice none 0 0] 37) = V1 at *
    clear hV
    refine wpAnyH_ready (rs := [0, 4]) (by kernel_rfl) (by simp) ?_
    refine (AllReadyH.cons (o := o8_15_0) rfl (fun K hK => ?_) (AllReadyH.cons (o := o8_15_4) rfl (fun K hK => ?_) AllReadyH.nil))
    · skip
      unfold o8_15_0
      go_simp
      have hL2 := hL1.mkrow
      refine hK.out _ _ ?_ (fun hHeld => ?_)
      · exact hL2.bel
      clear hK K
      try simp only [Act.put, List.setIfInBounds_toArray, List.set_cons_zero, List.set_cons_succ]
      generalize hV : V1.alloc (.cells #[] 24) = V2 at *
      clear hV
      refine wpAnyH_ready (rs := [2, 4]) (by kernel_rfl) (by simp) ?_
      refine (AllReadyH.cons (o := o8_15_2) rfl (fun K hK => ?_) (AllReadyH.cons (o := o8_15_4) rfl (fun K hK => ?_) AllReadyH.nil))
      · skip
        unfold o8_15_2
        obtain ⟨xs0, ho0, hr0⟩ := hL2.fr _ _ rfl
        refine step_src wq rfl (.tmp 118) (.tmp 119) rfl wq.heap.size _ _ xs0 rfl ho0 cD rfl hsD.out hL2.bel (by simp; omega) hL2.bel.size ?_
        intro v0_ V3 ho_ hg_ hat_
        have hL3 := hL2.app ho0 hr0 hsD.out.2.2.1 ho_ hg_ hat_
        clear ho_ hg_ hat_ ho0 hr0
        refine hK.out _ _ ?_ (fun hHeld => ?_)
        · exact hL3.bel
        clear hK K
        try simp only [Act.put, List.setIfInBounds_toArray, List.set_cons_zero, List.set_cons_succ]
        refine wpAnyH_ready (rs := [4]) (by kernel_rfl) (by simp) ?_
        refine (AllReadyH.cons (o := o8_15_4) rfl (fun K hK => ?_) AllReadyH.nil)
        unfold o8_15_4
        go_simp
        have hL4 := hL3.mkone
        refine hK.out _ _ ?_ (fun hHeld => ?_)
        · exact hL4.bel
        clear hK K
        try simp only [Act.put, List.setIfInBounds_toArray, List.set_cons_zero, List.set_cons_succ]
        generalize hV : V3.alloc (.cells #[.int .i64 x.kind, .int .i64 x.n, .slice ax x.kids.length cx] 24) = V4 at *
        clear hV
        refine wpAnyH_ready (rs := [5]) (by kernel_rfl) (by simp) ?_
        refine (AllReadyH.cons (o := o8_15_5) rfl (fun K hK => ?_) AllReadyH.nil)
        unfold o8_15_5
        obtain ⟨xs1, ho1, hr1⟩ := hL4.fr _ _ rfl
        obtain ⟨_, hB1, _⟩ := hL4.fo _ rfl
        refine step_append_at rfl (.tmp 120) (.tmp 122) 22 rfl wq.heap.size 24 i24 (.agg #[.int .i64 0, .int .i64 0, .slice none 0 0]) 3 40 Try.underlying22 hi24 hz240 hz241 hz242 rfl (by decide) _ _ xs1 rfl ho1 ⟨_, 0, none⟩ 1 1 (tyc x ax cx) rfl rfl (cell_tyc hB1) (tyc_one x ax cx) (by unfold maxLen; simp; omega) (by simp; omega) hL4.bel.size ?_
        intro v1_ V5 ho_ hg_ hat_
        have hL5 := hL4.app (M := [x]) ho1 hr1 (row_tyc hX.out) ho_ hg_ hat_
        clear ho_ hg_ hat_ ho1 hr1
        rw [HJN.out] at hL5
        obtain ⟨a7, c7, rfl, _, _⟩ := hL5.list (by omega)
        refine hK.out _ _ ?_ (fun hHeld => ?_)
        · exact hL5.bel
        clear hK K
        try simp only [Act.put, List.setIfInBounds_toArray, List.set_cons_zero, List.set_cons_succ]
        refine wpAnyH_ready (rs := [7]) (by kernel_rfl) (by simp) ?_
        refine (AllReadyH.cons (o := o8_15_7) rfl (fun K hK => ?_) AllReadyH.nil)
        unfold o8_15_7
        obtain ⟨a9, c9, he9, hr9, hT9⟩ := hL5.list (by omega)
        simp only [Value.slice.injEq, true_and] at he9
        obtain ⟨rfl, rfl⟩ := he9
        have KQ := Prove_any fl a7 c7 z az cz V5 r2 hT9 hr9 (hZ.out.below hL5.bel) H2.out
        rw [HE2.out] at KQ
        unfold vty at KQ
        go_simp
        (with_reducible refine KQ.mono ?_)
        clear KQ hT9 hr9
        rintro e9 V6 ⟨p9, x9, rfl, hb9, _, _⟩
        dsimp only
        unfold vpf
        have hL6 := hL5.below hb9
        refine hK.out _ _ ?_ (fun hHeld => ?_)
        · exact hL6.bel
        clear hK K
        try simp only [Act.put, List.setIfInBounds_toArray, List.set_cons_zero, List.set_cons_succ]
        refine tk (v := ?_) 8 o8_15_8 (by rfl) ?_ ?_
        case refine_2 => unfold o8_15_8; intro w hSw; obtain ⟨i0, i1, i2, j0, j1, j2⟩ := HCE.out _ hSw; go_simp; (try with_reducible rfl)
        simp only [o8_15_8, Act.put, List.setIfInBounds_toArray, List.set_cons_zero, List.set_cons_succ]
        refine tk (v := ?_) 9 o8_15_9 (by rfl) ?_ ?_
        case refine_2 => unfold o8_15_9; intro w hSw; obtain ⟨i0, i1, i2, j0, j1, j2⟩ := HCE.out _ hSw; go_simp; (try with_reducible rfl)
        simp only [o8_15_9, Act.put, List.setIfInBounds_toArray, List.set_cons_zero, List.set_cons_succ]
        refine tk (v := ?_) 10 o8_15_10 (by rfl) ?_ ?_
        case refine_2 => unfold o8_15_10; intro w hSw; obtain ⟨i0, i1, i2, j0, j1, j2⟩ := HCE.out _ hSw; go_simp; (try with_reducible rfl)
        simp only [o8_15_10, Act.put, List.setIfInBounds_toArray, List.set_cons_zero, List.set_cons_succ]
        refine tk (v := ?_) 11 o8_15_11 (by rfl) ?_ ?_
        case refine_2 => unfold o8_15_11; intro w hSw; obtain ⟨i0, i1, i2, j0, j1, j2⟩ := HCE.out _ hSw; go_simp; (try with_reducible rfl)
        simp only [o8_15_11, Act.put, List.setIfInBounds_toArray, List.set_cons_zero, List.set_cons_succ]
        refine wpAnyH_ready (rs := [13]) (by kernel_rfl) (by simp) ?_
        refine (AllReadyH.cons (o := o8_15_13) rfl (fun K hK => ?_) AllReadyH.nil)
        unfold o8_15_13
        obtain ⟨hBge, hBr, _⟩ := hL6.fp _ rfl
        have m0 := cell_of_row _ _ 0 _ _ _ hBr
        have f0 := frozen_of_row _ _ 0 _ 37 hBr
        have m1 := cell_of_row _ _ 1 _ _ _ hBr
        have f1 := frozen_of_row _ _ 1 _ 37 hBr
        have m2 := cell_of_row _ _ 2 _ _ _ hBr
        have f2 := frozen_of_row _ _ 2 _ 37 hBr
        have m3 := cell_of_row _ _ 3 _ _ _ hBr
        have f3 := frozen_of_row _ _ 3 _ 37 hBr
        have m4 := cell_of_row _ _ 4 _ _ _ hBr
        have f4 := frozen_of_row _ _ 4 _ 37 hBr
        have m5 := cell_of_row _ _ 5 _ _ _ hBr
        have f5 := frozen_of_row _ _ 5 _ 37 hBr
        have m6 := cell_of_row _ _ 6 _ _ _ hBr
        have f6 := frozen_of_row _ _ 6 _ 37 hBr
        have m7 := cell_of_row _ _ 7 _ _ _ hBr
        have f7 := frozen_of_row _ _ 7 _ 37 hBr
        go_simp
        have hbF := below8 hL6.bel hBge (.int .i64 p9.step) (.slice x9.la p9.left.length x9.lc) (.int .i64 p9.goal.kind) (.int .i64 p9.goal.n) (.slice x9.ga p9.goal.kids.length x9.gc) (.int .i64 p9.ix) (.int .i64 p9.n) (.slice x9.ka p9.kids.length x9.kc)
        refine hK.out _ _ ?_ (fun hHeld => ?_)
        · exact hbF
        clear hK K
        try simp only [Act.put, List.setIfInBounds_toArray, List.set_cons_zero, List.set_cons_succ]
        refine tk (v := ?_) 14 o8_15_14 (by rfl) ?_ ?_
        case refine_2 => unfold o8_15_14; intro w hSw; obtain ⟨i0, i1, i2, j0, j1, j2⟩ := HCE.out _ hSw; go_simp; (try with_reducible rfl)
        simp only [o8_15_14, Act.put, List.setIfInBounds_toArray, List.set_cons_zero, List.set_cons_succ]
        refine tk (v := ?_) 15 o8_15_15 (by rfl) ?_ ?_
        case refine_2 => unfold o8_15_15; intro w hSw; obtain ⟨i0, i1, i2, j0, j1, j2⟩ := HCE.out _ hSw; go_simp; (try with_reducible rfl)
        simp only [o8_15_15, Act.put, List.setIfInBounds_toArray, List.set_cons_zero, List.set_cons_succ]
        refine wpAnyH_done (by kernel_rfl) ?_ _
        exact NoPanic.normal (hQ _ _ _ _ _ _ _ _ _ _ _ _ _ _ hbF)
      · skip
        unfold o8_15_4
        go_simp
        have hL3 := hL2.mkone
        refine hK.out _ _ ?_ (fun hHeld => ?_)
        · exact hL3.bel
        clear hK K
        try simp only [Act.put, List.setIfInBounds_toArray, List.set_cons_zero, List.set_cons_succ]
        generalize hV : V2.alloc (.cells #[.int .i64 x.kind, .int .i64 x.n, .slice ax x.kids.length cx] 24) = V3 at *
        clear hV
        refine wpAnyH_ready (rs := [2]) (by kernel_rfl) (by simp) ?_
        refine (AllReadyH.cons (o := o8_15_2) rfl (fun K hK => ?_) AllReadyH.nil)
        unfold o8_15_2
        obtain ⟨xs0, ho0, hr0⟩ := hL3.fr _ _ rfl
        refine step_src wq rfl (.tmp 118) (.tmp 119) rfl wq.heap.size _ _ xs0 rfl ho0 cD rfl hsD.out hL3.bel (by simp; omega) hL3.bel.size ?_
        intro v0_ V4 ho_ hg_ hat_
        have hL4 := hL3.app ho0 hr0 hsD.out.2.2.1 ho_ hg_ hat_
        clear ho_ hg_ hat_ ho0 hr0
        refine hK.out _ _ ?_ (fun hHeld => ?_)
        · exact hL4.bel
        clear hK K
        try simp only [Act.put, List.setIfInBounds_toArray, List.set_cons_zero, List.set_cons_succ]
        refine wpAnyH_ready (rs := [5]) (by kernel_rfl) (by simp) ?_
        refine (AllReadyH.cons (o := o8_15_5) rfl (fun K hK => ?_) AllReadyH.nil)
        unfold o8_15_5
        obtain ⟨xs1, ho1, hr1⟩ := hL4.fr _ _ rfl
        obtain ⟨_, hB1, _⟩ := hL4.fo _ rfl
        refine step_append_at rfl (.tmp 120) (.tmp 122) 22 rfl wq.heap.size 24 i24 (.agg #[.int .i64 0, .int .i64 0, .slice none 0 0]) 3 40 Try.underlying22 hi24 hz240 hz241 hz242 rfl (by decide) _ _ xs1 rfl ho1 ⟨_, 0, none⟩ 1 1 (tyc x ax cx) rfl rfl (cell_tyc hB1) (tyc_one x ax cx) (by unfold maxLen; simp; omega) (by simp; omega) hL4.bel.size ?_
        intro v1_ V5 ho_ hg_ hat_
        have hL5 := hL4.app (M := [x]) ho1 hr1 (row_tyc hX.out) ho_ hg_ hat_
        clear ho_ hg_ hat_ ho1 hr1
        rw [HJN.out] at hL5
        obtain ⟨a7, c7, rfl, _, _⟩ := hL5.list (by omega)
        refine hK.out _ _ ?_ (fun hHeld => ?_)
        · exact hL5.bel
        clear hK K
        try simp only [Act.put, List.setIfInBounds_toArray, List.set_cons_zero, List.set_cons_succ]
        refine wpAnyH_ready (rs := [7]) (by kernel_rfl) (by simp) ?_
        refine (AllReadyH.cons (o := o8_15_7) rfl (fun K hK => ?_) AllReadyH.nil)
        unfold o8_15_7
        obtain ⟨a9, c9, he9, hr9, hT9⟩ := hL5.list (by omega)
        simp only [Value.slice.injEq, true_and] at he9
        obtain ⟨rfl, rfl⟩ := he9
        have KQ := Prove_any fl a7 c7 z az cz V5 r2 hT9 hr9 (hZ.out.below hL5.bel) H2.out
        rw [HE2.out] at KQ
        unfold vty at KQ
        go_simp
        (with_reducible refine KQ.mono ?_)
        clear KQ hT9 hr9
        rintro e9 V6 ⟨p9, x9, rfl, hb9, _, _⟩
        dsimp only
        unfold vpf
        have hL6 := hL5.below hb9
        refine hK.out _ _ ?_ (fun hHeld => ?_)
        · exact hL6.bel
        clear hK K
        try simp only [Act.put, List.setIfInBounds_toArray, List.set_cons_zero, List.set_cons_succ]
        refine tk (v := ?_) 8 o8_15_8 (by rfl) ?_ ?_
        case refine_2 => unfold o8_15_8; intro w hSw; obtain ⟨i0, i1, i2, j0, j1, j2⟩ := HCE.out _ hSw; go_simp; (try with_reducible rfl)
        simp only [o8_15_8, Act.put, List.setIfInBounds_toArray, List.set_cons_zero, List.set_cons_succ]
        refine tk (v := ?_) 9 o8_15_9 (by rfl) ?_ ?_
        case refine_2 => unfold o8_15_9; intro w hSw; obtain ⟨i0, i1, i2, j0, j1, j2⟩ := HCE.out _ hSw; go_simp; (try with_reducible rfl)
        simp only [o8_15_9, Act.put, List.setIfInBounds_toArray, List.set_cons_zero, List.set_cons_succ]
        refine tk (v := ?_) 10 o8_15_10 (by rfl) ?_ ?_
        case refine_2 => unfold o8_15_10; intro w hSw; obtain ⟨i0, i1, i2, j0, j1, j2⟩ := HCE.out _ hSw; go_simp; (try with_reducible rfl)
        simp only [o8_15_10, Act.put, List.setIfInBounds_toArray, List.set_cons_zero, List.set_cons_succ]
        refine tk (v := ?_) 11 o8_15_11 (by rfl) ?_ ?_
        case refine_2 => unfold o8_15_11; intro w hSw; obtain ⟨i0, i1, i2, j0, j1, j2⟩ := HCE.out _ hSw; go_simp; (try with_reducible rfl)
        simp only [o8_15_11, Act.put, List.setIfInBounds_toArray, List.set_cons_zero, List.set_cons_succ]
        refine wpAnyH_ready (rs := [13]) (by kernel_rfl) (by simp) ?_
        refine (AllReadyH.cons (o := o8_15_13) rfl (fun K hK => ?_) AllReadyH.nil)
        unfold o8_15_13
        obtain ⟨hBge, hBr, _⟩ := hL6.fp _ rfl
        have m0 := cell_of_row _ _ 0 _ _ _ hBr
        have f0 := frozen_of_row _ _ 0 _ 37 hBr
        have m1 := cell_of_row _ _ 1 _ _ _ hBr
        have f1 := frozen_of_row _ _ 1 _ 37 hBr
        have m2 := cell_of_row _ _ 2 _ _ _ hBr
        have f2 := frozen_of_row _ _ 2 _ 37 hBr
        have m3 := cell_of_row _ _ 3 _ _ _ hBr
        have f3 := frozen_of_row _ _ 3 _ 37 hBr
        have m4 := cell_of_row _ _ 4 _ _ _ hBr
        have f4 := frozen_of_row _ _ 4 _ 37 hBr
        have m5 := cell_of_row _ _ 5 _ _ _ hBr
        have f5 := frozen_of_row _ _ 5 _ 37 hBr
        have m6 := cell_of_row _ _ 6 _ _ _ hBr
        have f6 := frozen_of_row _ _ 6 _ 37 hBr
        have m7 := cell_of_row _ _ 7 _ _ _ hBr
        have f7 := frozen_of_row _ _ 7 _ 37 hBr
        go_simp
        have hbF := below8 hL6.bel hBge (.int .i64 p9.step) (.slice x9.la p9.left.length x9.lc) (.int .i64 p9.goal.kind) (.int .i64 p9.goal.n) (.slice x9.ga p9.goal.kids.length x9.gc) (.int .i64 p9.ix) (.int .i64 p9.n) (.slice x9.ka p9.kids.length x9.kc)
        refine hK.out _ _ ?_ (fun hHeld => ?_)
        · exact hbF
        clear hK K
        try simp only [Act.put, List.setIfInBounds_toArray, List.set_cons_zero, List.set_cons_succ]
        refine tk (v := ?_) 14 o8_15_14 (by rfl) ?_ ?_
        case refine_2 => unfold o8_15_14; intro w hSw; obtain ⟨i0, i1, i2, j0, j1, j2⟩ := HCE.out _ hSw; go_simp; (try with_reducible rfl)
        simp only [o8_15_14, Act.put, List.setIfInBounds_toArray, List.set_cons_zero, List.set_cons_succ]
        refine tk (v := ?_) 15 o8_15_15 (by rfl) ?_ ?_
        case refine_2 => unfold o8_15_15; intro w hSw; obtain ⟨i0, i1, i2, j0, j1, j2⟩ := HCE.out _ hSw; go_simp; (try with_reducible rfl)
        simp only [o8_15_15, Act.put, List.setIfInBounds_toArray, List.set_cons_zero, List.set_cons_succ]
        refine wpAnyH_done (by kernel_rfl) ?_ _
        exact NoPanic.normal (hQ _ _ _ _ _ _ _ _ _ _ _ _ _ _ hbF)
    · skip
      unfold o8_15_4
      go_simp
      have hL2 := hL1.mkone
      refine hK.out _ _ ?_ (fun hHeld => ?_)
      · exact hL2.bel
      clear hK K
      try simp only [Act.put, List.setIfInBounds_toArray, List.set_cons_zero, List.set_cons_succ]
      generalize hV : V1.alloc (.cells #[.int .i64 x.kind, .int .i64 x.n, .slice ax x.kids.length cx] 24) = V2 at *
      clear hV
      refine wpAnyH_ready (rs := [0]) (by kernel_rfl) (by simp) ?_
      refine (AllReadyH.cons (o := o8_15_0) rfl (fun K hK => ?_) AllReadyH.nil)
      unfold o8_15_0
      go_simp
      have hL3 := hL2.mkrow
      refine hK.out _ _ ?_ (fun hHeld => ?_)
      · exact hL3.bel
      clear hK K
      try simp only [Act.put, List.setIfInBounds_toArray, List.set_cons_zero, List.set_cons_succ]
      generalize hV : V2.alloc (.cells #[] 24) = V3 at *
      clear hV
      refine wpAnyH_ready (rs := [2]) (by kernel_rfl) (by simp) ?_
      refine (AllReadyH.cons (o := o8_15_2) rfl (fun K hK => ?_) AllReadyH.nil)
      unfold o8_15_2
      obtain ⟨xs0, ho0, hr0⟩ := hL3.fr _ _ rfl
      refine step_src wq rfl (.tmp 118) (.tmp 119) rfl wq.heap.size _ _ xs0 rfl ho0 cD rfl hsD.out hL3.bel (by simp; omega) hL3.bel.size ?_
      intro v0_ V4 ho_ hg_ hat_
      have hL4 := hL3.app ho0 hr0 hsD.out.2.2.1 ho_ hg_ hat_
      clear ho_ hg_ hat_ ho0 hr0
      refine hK.out _ _ ?_ (fun hHeld => ?_)
      · exact hL4.bel
      clear hK K
      try simp only [Act.put, List.setIfInBounds_toArray, List.set_cons_zero, List.set_cons_succ]
      refine wpAnyH_ready (rs := [5]) (by kernel_rfl) (by simp) ?_
      refine (AllReadyH.cons (o := o8_15_5) rfl (fun K hK => ?_) AllReadyH.nil)
      unfold o8_15_5
      obtain ⟨xs1, ho1, hr1⟩ := hL4.fr _ _ rfl
      obtain ⟨_, hB1, _⟩ := hL4.fo _ rfl
      refine step_append_at rfl (.tmp 120) (.tmp 122) 22 rfl wq.heap.size 24 i24 (.agg #[.int .i64 0, .int .i64 0, .slice none 0 0]) 3 40 Try.underlying22 hi24 hz240 hz241 hz242 rfl (by decide) _ _ xs1 rfl ho1 ⟨_, 0, none⟩ 1 1 (tyc x ax cx) rfl rfl (cell_tyc hB1) (tyc_one x ax cx) (by unfold maxLen; simp; omega) (by simp; omega) hL4.bel.size ?_
      intro v1_ V5 ho_ hg_ hat_
      have hL5 := hL4.app (M := [x]) ho1 hr1 (row_tyc hX.out) ho_ hg_ hat_
      clear ho_ hg_ hat_ ho1 hr1
      rw [HJN.out] at hL5
      obtain ⟨a7, c7, rfl, _, _⟩ := hL5.list (by omega)
      refine hK.out _ _ ?_ (fun hHeld => ?_)
      · exact hL5.bel
      clear hK K
      try simp only [Act.put, List.setIfInBounds_toArray, List.set_cons_zero, List.set_cons_succ]
      refine wpAnyH_ready (rs := [7]) (by kernel_rfl) (by simp) ?_
      refine (AllReadyH.cons (o := o8_15_7) rfl (fun K hK => ?_) AllReadyH.nil)
      unfold o8_15_7
      obtain ⟨a9, c9, he9, hr9, hT9⟩ := hL5.list (by omega)
      simp only [Value.slice.injEq, true_and] at he9
      obtain ⟨rfl, rfl⟩ := he9
      have KQ := Prove_any fl a7 c7 z az cz V5 r2 hT9 hr9 (hZ.out.below hL5.bel) H2.out
      rw [HE2.out] at KQ
      unfold vty at KQ
      go_simp
      (with_reducible refine KQ.mono ?_)
      clear KQ hT9 hr9
      rintro e9 V6 ⟨p9, x9, rfl, hb9, _, _⟩
      dsimp only
      unfold vpf
      have hL6 := hL5.below hb9
      refine hK.out _ _ ?_ (fun hHeld => ?_)
      · exact hL6.bel
      clear hK K
      try simp only [Act.put, List.setIfInBounds_toArray, List.set_cons_zero, List.set_cons_succ]
      refine tk (v := ?_) 8 o8_15_8 (by rfl) ?_ ?_
      case refine_2 => unfold o8_15_8; intro w hSw; obtain ⟨i0, i1, i2, j0, j1, j2⟩ := HCE.out _ hSw; go_simp; (try with_reducible rfl)
      simp only [o8_15_8, Act.put, List.setIfInBounds_toArray, List.set_cons_zero, List.set_cons_succ]
      refine tk (v := ?_) 9 o8_15_9 (by rfl) ?_ ?_
      case refine_2 => unfold o8_15_9; intro w hSw; obtain ⟨i0, i1, i2, j0, j1, j2⟩ := HCE.out _ hSw; go_simp; (try with_reducible rfl)
      simp only [o8_15_9, Act.put, List.setIfInBounds_toArray, List.set_cons_zero, List.set_cons_succ]
      refine tk (v := ?_) 10 o8_15_10 (by rfl) ?_ ?_
      case refine_2 => unfold o8_15_10; intro w hSw; obtain ⟨i0, i1, i2, j0, j1, j2⟩ := HCE.out _ hSw; go_simp; (try with_reducible rfl)
      simp only [o8_15_10, Act.put, List.setIfInBounds_toArray, List.set_cons_zero, List.set_cons_succ]
      refine tk (v := ?_) 11 o8_15_11 (by rfl) ?_ ?_
      case refine_2 => unfold o8_15_11; intro w hSw; obtain ⟨i0, i1, i2, j0, j1, j2⟩ := HCE.out _ hSw; go_simp; (try with_reducible rfl)
      simp only [o8_15_11, Act.put, List.setIfInBounds_toArray, List.set_cons_zero, List.set_cons_succ]
      refine wpAnyH_ready (rs := [13]) (by kernel_rfl) (by simp) ?_
      refine (AllReadyH.cons (o := o8_15_13) rfl (fun K hK => ?_) AllReadyH.nil)
      unfold o8_15_13
      obtain ⟨hBge, hBr, _⟩ := hL6.fp _ rfl
      have m0 := cell_of_row _ _ 0 _ _ _ hBr
      have f0 := frozen_of_row _ _ 0 _ 37 hBr
      have m1 := cell_of_row _ _ 1 _ _ _ hBr
      have f1 := frozen_of_row _ _ 1 _ 37 hBr
      have m2 := cell_of_row _ _ 2 _ _ _ hBr
      have f2 := frozen_of_row _ _ 2 _ 37 hBr
      have m3 := cell_of_row _ _ 3 _ _ _ hBr
      have f3 := frozen_of_row _ _ 3 _ 37 hBr
      have m4 := cell_of_row _ _ 4 _ _ _ hBr
      have f4 := frozen_of_row _ _ 4 _ 37 hBr
      have m5 := cell_of_row _ _ 5 _ _ _ hBr
      have f5 := frozen_of_row _ _ 5 _ 37 hBr
      have m6 := cell_of_row _ _ 6 _ _ _ hBr
      have f6 := frozen_of_row _ _ 6 _ 37 hBr
      have m7 := cell_of_row _ _ 7 _ _ _ hBr
      have f7 := frozen_of_row _ _ 7 _ 37 hBr
      go_simp
      have hbF := below8 hL6.bel hBge (.int .i64 p9.step) (.slice x9.la p9.left.length x9.lc) (.int .i64 p9.goal.kind) (.int .i64 p9.goal.n) (.slice x9.ga p9.goal.kids.length x9.gc) (.int .i64 p9.ix) (.int .i64 p9.n) (.slice x9.ka p9.kids.length x9.kc)
      refine hK.out _ _ ?_ (fun hHeld => ?_)
      · exact hbF
      clear hK K
      try simp only [Act.put, List.setIfInBounds_toArray, List.set_cons_zero, List.set_cons_succ]
      refine tk (v := ?_) 14 o8_15_14 (by rfl) ?_ ?_
      case refine_2 => unfold o8_15_14; intro w hSw; obtain ⟨i0, i1, i2, j0, j1, j2⟩ := HCE.out _ hSw; go_simp; (try with_reducible rfl)
      simp only [o8_15_14, Act.put, List.setIfInBounds_toArray, List.set_cons_zero, List.set_cons_succ]
      refine tk (v := ?_) 15 o8_15_15 (by rfl) ?_ ?_
      case refine_2 => unfold o8_15_15; intro w hSw; obtain ⟨i0, i1, i2, j0, j1, j2⟩ := HCE.out _ hSw; go_simp; (try with_reducible rfl)
      simp only [o8_15_15, Act.put, List.setIfInBounds_toArray, List.set_cons_zero, List.set_cons_succ]
      refine wpAnyH_done (by kernel_rfl) ?_ _
      exact NoPanic.normal (hQ _ _ _ _ _ _ _ _ _ _ _ _ _ _ hbF)
end Go.Proofs.Ytbmgkgoghgdbhaa.Te
