/- A region of the document's Proves. Condition: the sequent is small. -/
import Derived.Test.YtbmgkgoghgdbhaaVe
import Derived.Test.YtbmgkgoghgdbhaaTk
import Derived.Deep.RegionHeld3
namespace Go.Proofs.Ytbmgkgoghgdbhaa.Te
open Go.RowKit

def o22_14_0 : Oper := { dst := some 81, op := Op.fieldAddr 24 (Operand.tmp 6) 0, type := 0, pos := "speech.go:274", after := #[], guard := none }
def o22_14_1 : Oper := { dst := some 82, op := Op.load 3 (Operand.tmp 81), type := 3, pos := "speech.go:274", after := #[{ on := 0, ground := Ground.data }], guard := none }
def o22_14_2 : Oper := { dst := some 83, op := Op.binOp BinOp.eql 3 (Operand.tmp 82) (Operand.const (Value.int IntKind.i64 2)) 3, type := 4, pos := "speech.go:274", after := #[{ on := 1, ground := Ground.data }], guard := none }
def o22_14_3 : Oper := { dst := some 84, op := Op.move (Operand.tmp 83), type := 4, pos := "speech.go:274", after := #[{ on := 2, ground := Ground.data }], guard := none }
def o22_14_4 : Oper := { dst := some 85, op := Op.move (Operand.tmp 7), type := 3, pos := "speech.go:274", after := #[{ on := 3, ground := Ground.guard }], guard := some (3, true) }
def o22_14_5 : Oper := { dst := some 86, op := Op.move (Operand.tmp 5), type := 3, pos := "speech.go:274", after := #[{ on := 3, ground := Ground.guard }], guard := some (3, true) }
def o22_14_6 : Oper := { dst := some 87, op := Op.binOp BinOp.add 3 (Operand.tmp 86) (Operand.const (Value.int IntKind.i64 1)) 3, type := 3, pos := "speech.go:274", after := #[{ on := 5, ground := Ground.data }, { on := 3, ground := Ground.guard }], guard := some (3, true) }
def o22_14_7 : Oper := { dst := some 88, op := Op.binOp BinOp.gtr 3 (Operand.tmp 85) (Operand.tmp 87) 3, type := 4, pos := "speech.go:274", after := #[{ on := 4, ground := Ground.data }, { on := 6, ground := Ground.data }, { on := 3, ground := Ground.guard }], guard := some (3, true) }
def o22_14_8 : Oper := { dst := some 89, op := Op.pick (Operand.tmp 84) (Operand.tmp 88) (Operand.const (Value.bool false)), type := 4, pos := "speech.go:274", after := #[{ on := 3, ground := Ground.data }, { on := 7, ground := Ground.data }], guard := none }
def o22_14_9 : Oper := { dst := some 90, op := Op.move (Operand.tmp 89), type := 4, pos := "speech.go:274", after := #[{ on := 8, ground := Ground.data }, { on := 3, ground := Ground.chain }], guard := none }
def o22_14_10 : Oper := { dst := some 91, op := Op.move (Operand.tmp 0), type := 22, pos := "speech.go:274", after := #[{ on := 9, ground := Ground.guard }], guard := some (9, true) }
def o22_14_11 : Oper := { dst := some 92, op := Op.move (Operand.tmp 5), type := 3, pos := "speech.go:274", after := #[{ on := 9, ground := Ground.guard }], guard := some (9, true) }
def o22_14_12 : Oper := { dst := some 93, op := Op.binOp BinOp.add 3 (Operand.tmp 92) (Operand.const (Value.int IntKind.i64 1)) 3, type := 3, pos := "speech.go:274", after := #[{ on := 11, ground := Ground.data }, { on := 9, ground := Ground.guard }], guard := some (9, true) }
def o22_14_13 : Oper := { dst := some 94, op := Op.move (Operand.tmp 7), type := 3, pos := "speech.go:274", after := #[{ on := 9, ground := Ground.guard }], guard := some (9, true) }
def o22_14_14 : Oper := { dst := some 95, op := Op.slice 22 (Operand.tmp 91) (some (Operand.tmp 93)) (some (Operand.tmp 94)) none, type := 22, pos := "speech.go:274", after := #[{ on := 10, ground := Ground.data }, { on := 12, ground := Ground.data }, { on := 13, ground := Ground.data }, { on := 9, ground := Ground.guard }], guard := some (9, true) }
def o22_14_15 : Oper := { dst := some 96, op := Op.fieldAddr 24 (Operand.tmp 6) 2, type := 0, pos := "speech.go:274", after := #[{ on := 9, ground := Ground.guard }], guard := some (9, true) }
def o22_14_16 : Oper := { dst := some 97, op := Op.load 22 (Operand.tmp 96), type := 22, pos := "speech.go:274", after := #[{ on := 15, ground := Ground.data }, { on := 9, ground := Ground.guard }], guard := some (9, true) }
def o22_14_17 : Oper := { dst := some 98, op := Op.indexAddr 22 (Operand.tmp 97) (Operand.const (Value.int IntKind.i64 1)), type := 0, pos := "speech.go:274", after := #[{ on := 16, ground := Ground.data }, { on := 9, ground := Ground.guard }], guard := some (9, true) }
def o22_14_18 : Oper := { dst := some 99, op := Op.load 24 (Operand.tmp 98), type := 24, pos := "speech.go:274", after := #[{ on := 17, ground := Ground.data }, { on := 9, ground := Ground.guard }], guard := some (9, true) }
def o22_14_19 : Oper := { dst := some 100, op := Op.call { callee := Callee.value (Operand.func 22), args := #[Operand.tmp 95, Operand.tmp 99], argTypes := #[22, 24] }, type := 4, pos := "speech.go:274", after := #[{ on := 14, ground := Ground.data }, { on := 18, ground := Ground.data }, { on := 9, ground := Ground.chain }, { on := 9, ground := Ground.guard }], guard := some (9, true) }
def o22_14_20 : Oper := { dst := some 101, op := Op.pick (Operand.tmp 90) (Operand.tmp 100) (Operand.const (Value.bool false)), type := 4, pos := "speech.go:274", after := #[{ on := 9, ground := Ground.data }, { on := 19, ground := Ground.data }], guard := none }
def o22_14_21 : Oper := { dst := some 102, op := Op.move (Operand.tmp 101), type := 4, pos := "speech.go:274", after := #[{ on := 20, ground := Ground.data }, { on := 19, ground := Ground.chain }], guard := none }
def o22_14_22 : Oper := { dst := some 103, op := Op.move (Operand.tmp 0), type := 22, pos := "speech.go:274", after := #[{ on := 21, ground := Ground.guard }], guard := some (21, true) }
def o22_14_23 : Oper := { dst := some 104, op := Op.move (Operand.tmp 5), type := 3, pos := "speech.go:274", after := #[{ on := 21, ground := Ground.guard }], guard := some (21, true) }
def o22_14_24 : Oper := { dst := some 105, op := Op.slice 22 (Operand.tmp 103) none (some (Operand.tmp 104)) none, type := 22, pos := "speech.go:274", after := #[{ on := 22, ground := Ground.data }, { on := 23, ground := Ground.data }, { on := 21, ground := Ground.guard }], guard := some (21, true) }
def o22_14_25 : Oper := { dst := some 106, op := Op.fieldAddr 24 (Operand.tmp 6) 2, type := 0, pos := "speech.go:274", after := #[{ on := 21, ground := Ground.guard }], guard := some (21, true) }
def o22_14_26 : Oper := { dst := some 107, op := Op.load 22 (Operand.tmp 106), type := 22, pos := "speech.go:274", after := #[{ on := 25, ground := Ground.data }, { on := 21, ground := Ground.guard }], guard := some (21, true) }
def o22_14_27 : Oper := { dst := some 108, op := Op.slice 22 (Operand.tmp 107) none (some (Operand.const (Value.int IntKind.i64 1))) none, type := 22, pos := "speech.go:274", after := #[{ on := 26, ground := Ground.data }, { on := 21, ground := Ground.guard }], guard := some (21, true) }
def o22_14_28 : Oper := { dst := some 109, op := Op.move (Operand.tmp 0), type := 22, pos := "speech.go:274", after := #[{ on := 21, ground := Ground.guard }], guard := some (21, true) }
def o22_14_29 : Oper := { dst := some 110, op := Op.move (Operand.tmp 7), type := 3, pos := "speech.go:274", after := #[{ on := 21, ground := Ground.guard }], guard := some (21, true) }
def o22_14_30 : Oper := { dst := some 111, op := Op.slice 22 (Operand.tmp 109) (some (Operand.tmp 110)) none none, type := 22, pos := "speech.go:274", after := #[{ on := 28, ground := Ground.data }, { on := 29, ground := Ground.data }, { on := 21, ground := Ground.guard }], guard := some (21, true) }
def o22_14_31 : Oper := { dst := some 112, op := Op.buildSlice 49 3 #[(0, Operand.tmp 105), (1, Operand.tmp 108), (2, Operand.tmp 111)], type := 49, pos := "speech.go:274", after := #[{ on := 24, ground := Ground.data }, { on := 27, ground := Ground.data }, { on := 30, ground := Ground.data }, { on := 21, ground := Ground.guard }], guard := some (21, true) }
def o22_14_32 : Oper := { dst := some 113, op := Op.call { callee := Callee.value (Operand.func 52), args := #[Operand.tmp 112], argTypes := #[49] }, type := 22, pos := "speech.go:274", after := #[{ on := 31, ground := Ground.data }, { on := 21, ground := Ground.chain }, { on := 21, ground := Ground.guard }], guard := some (21, true) }
def o22_14_33 : Oper := { dst := some 114, op := Op.load 24 (Operand.tmp 3), type := 24, pos := "speech.go:274", after := #[{ on := 21, ground := Ground.guard }], guard := some (21, true) }
def o22_14_34 : Oper := { dst := some 115, op := Op.call { callee := Callee.value (Operand.func 22), args := #[Operand.tmp 113, Operand.tmp 114], argTypes := #[22, 24] }, type := 4, pos := "speech.go:274", after := #[{ on := 32, ground := Ground.data }, { on := 33, ground := Ground.data }, { on := 32, ground := Ground.chain }, { on := 21, ground := Ground.guard }], guard := some (21, true) }
def o22_14_35 : Oper := { dst := some 116, op := Op.pick (Operand.tmp 102) (Operand.tmp 115) (Operand.const (Value.bool false)), type := 4, pos := "speech.go:274", after := #[{ on := 21, ground := Ground.data }, { on := 34, ground := Ground.data }], guard := none }
set_option maxRecDepth 100000 in
set_option maxHeartbeats 8000000 in
theorem o22r14 {M d dg : Nat} {l : List Ty} {lg lo c : Nat} {g : Ty} {ag : Option Addr} {cg : Nat} {w wq : World} {Q : Exit → Act → World → Prop} (HSZ : Hid (szs l + sz g ≤ M)) (HM : Hid (M ≤ 900)) (hlen : l.length ≤ 900) (hl0 : 0 < l.length) (hroom : l.length ≤ c) (hlg : lg < w.heap.size) (HL : Hid (LsQ w d l (some ⟨lg, lo, none⟩) c)) (HG : Hid (TyQ w dg g ag cg)) (HGL : Hid (∀ t ∈ l, Gp t)) (HGG : Hid (Gp g)) (IH : Hid (∀ M', M' < M → PvOk M')) {A : Nat} {f : Ty} {af : Option Addr} {fc i i1 k : Nat} (hil : i < l.length) (HF : Hid (l[i] = f)) (HT : Hid (TyQ w d f af fc)) (HGFF : Hid (Gp f)) (HI1 : Hid (i1 = i + 1)) (hI1 : IntKind.i64.wrap ((i : Int) + 1) = (i1 : Int)) (hkl : k ≤ l.length) (hkl' : (k : Int) ≤ (l.length : Int)) (hkc : (k : Int) ≤ (c : Int)) (hk0 : (0 : Int) ≤ (k : Int)) (hic : (i : Int) ≤ (c : Int)) (hi0 : (0 : Int) ≤ (i : Int)) (hi1c : (i1 : Int) ≤ (l.length : Int)) (hi10 : (0 : Int) ≤ (i1 : Int)) (hi1n : i1 ≤ l.length) (hil' : (i : Int) < (l.length : Int)) (hS : S2 w (.cells #[.int .i64 g.kind, .int .i64 g.n, .slice ag g.kids.length cg] 24 (0, 0)) A f af fc wq) {rq : Bool} (HRQ : Hid (rq = true ↔ Qo l g i k)) {u1 u2 u4 u8 u9 u10 u11 u12 u13 u14 u15 u16 u17 u18 u19 u20 u21 u22 u23 u24 u25 u26 u27 u28 u29 u30 u31 u32 u33 u34 u35 u36 u37 u38 u39 u40 u41 u42 u43 u44 u45 u46 u47 u48 u49 u50 u51 u52 u53 u54 u55 u56 u57 u58 u59 u60 u61 u62 u63 u64 u65 u66 u67 u68 u69 u70 u71 u72 u73 u74 u75 u76 u77 u78 u79 u80 u81 u82 u83 u84 u85 u86 u87 u88 u89 u90 u91 u92 u93 u94 u95 u96 u97 u98 u99 u100 u101 u102 u103 u104 u105 u106 u107 u108 u109 u110 u111 u112 u113 u114 u115 u116 u117 u118 u119 u120 u121 u122 u123 u124 u125 u126 u127 u128 u129 u130 u131 u132 u133 u134 u135 u136 u137 u138 u139 u140 u141 u142 u143 u144 u145 u146 u147 u148 u149 u150 u151 : Value}
    (hQ : ∀ (v81 v82 v83 v84 v85 v86 v87 v88 v89 v90 v91 v92 v93 v94 v95 v96 v97 v98 v99 v100 v101 v102 v103 v104 v105 v106 v107 v108 v109 v110 v111 v112 v113 v114 v115 : Value) (wx : World), S2 w (.cells #[.int .i64 g.kind, .int .i64 g.n, .slice ag g.kids.length cg] 24 (0, 0)) A f af fc wx → Q .normal { tmps := #[.slice (some ⟨lg, lo, none⟩) l.length c, u1, u2, .pointer (some ⟨w.heap.size, 0, none⟩), u4, .int .i64 (i : Int), .pointer (some ⟨A, 0, none⟩), .int .i64 (k : Int), u8, u9, u10, u11, u12, u13, u14, u15, u16, u17, u18, u19, u20, u21, u22, u23, u24, u25, u26, u27, u28, u29, u30, u31, u32, u33, u34, u35, u36, u37, u38, u39, u40, u41, u42, u43, u44, u45, u46, u47, u48, u49, u50, u51, u52, u53, u54, u55, u56, u57, u58, u59, u60, u61, u62, u63, u64, u65, u66, u67, u68, u69, u70, u71, u72, u73, u74, u75, u76, u77, u78, u79, u80, v81, v82, v83, v84, v85, v86, v87, v88, v89, v90, v91, v92, v93, v94, v95, v96, v97, v98, v99, v100, v101, v102, v103, v104, v105, v106, v107, v108, v109, v110, v111, v112, v113, v114, v115, .bool rq, u117, u118, u119, u120, u121, u122, u123, u124, u125, u126, u127, u128, u129, u130, u131, u132, u133, u134, u135, u136, u137, u138, u139, u140, u141, u142, u143, u144, u145, u146, u147, u148, u149, u150, u151], defers := [] } wx) :
    (Code.region 14 #[o22_14_0, o22_14_1, o22_14_2, o22_14_3, o22_14_4, o22_14_5, o22_14_6, o22_14_7, o22_14_8, o22_14_9, o22_14_10, o22_14_11, o22_14_12, o22_14_13, o22_14_14, o22_14_15, o22_14_16, o22_14_17, o22_14_18, o22_14_19, o22_14_20, o22_14_21, o22_14_22, o22_14_23, o22_14_24, o22_14_25, o22_14_26, o22_14_27, o22_14_28, o22_14_29, o22_14_30, o22_14_31, o22_14_32, o22_14_33, o22_14_34, o22_14_35] true).wp Try.prog Q { tmps := #[.slice (some ⟨lg, lo, none⟩) l.length c, u1, u2, .pointer (some ⟨w.heap.size, 0, none⟩), u4, .int .i64 (i : Int), .pointer (some ⟨A, 0, none⟩), .int .i64 (k : Int), u8, u9, u10, u11, u12, u13, u14, u15, u16, u17, u18, u19, u20, u21, u22, u23, u24, u25, u26, u27, u28, u29, u30, u31, u32, u33, u34, u35, u36, u37, u38, u39, u40, u41, u42, u43, u44, u45, u46, u47, u48, u49, u50, u51, u52, u53, u54, u55, u56, u57, u58, u59, u60, u61, u62, u63, u64, u65, u66, u67, u68, u69, u70, u71, u72, u73, u74, u75, u76, u77, u78, u79, u80, u81, u82, u83, u84, u85, u86, u87, u88, u89, u90, u91, u92, u93, u94, u95, u96, u97, u98, u99, u100, u101, u102, u103, u104, u105, u106, u107, u108, u109, u110, u111, u112, u113, u114, u115, u116, u117, u118, u119, u120, u121, u122, u123, u124, u125, u126, u127, u128, u129, u130, u131, u132, u133, u134, u135, u136, u137, u138, u139, u140, u141, u142, u143, u144, u145, u146, u147, u148, u149, u150, u151], defers := [] } wq := by
  have hU_ : True := (fun _ _ _ _ _ _ _ _ _ _ _ _ _ _ _ _ _ _ _ _ _ _ _ _ _ _ _ _ => trivial) HSZ HM hlen hl0 hroom hlg HL HG HGL HGG IH hil HF HT HGFF HI1 hI1 hkl hkl' hkc hk0 hic hi0 hi1c hi10 hi1n hil' hS
  clear hU_
  refine wp_region_noPanic ?_
  by_cases hfk : f.kind = 2
  rotate_left
  · have hfb : (f.kind == 2) = false := by simpa using hfk
    have hrf : rq = false := bool_false HRQ.out (fun ⟨hi, x, y, e, _⟩ => hfk (by rw [← HF.out, e]; rfl))
    subst hrf
    have HCE : Hid _ := fun (W : World) (hSw : S2 w (.cells #[.int .i64 g.kind, .int .i64 g.n, .slice ag g.kids.length cg] 24 (0, 0)) A f af fc W) => cell_of_row _ _ 0 _ _ _ hSw.ra
    refine wp_region_held_drew (S := fun W => S2 w (.cells #[.int .i64 g.kind, .int .i64 g.n, .slice ag g.kids.length cg] 24 (0, 0)) A f af fc W) (by kernel_rfl) (by exact hS.below (below_drewN (Below.refl _ _) 1)) (fun hHeld => ?_)
    have hS0 := hHeld
    generalize hV : wq.drew = V0 at *
    clear hV
    refine tk (v := ?_) 0 o22_14_0 (by rfl) ?_ ?_
    case refine_2 => unfold o22_14_0; intro w hSw; have p0 := HCE.out _ hSw; go_simp; (try with_reducible rfl)
    simp only [o22_14_0, Act.put, List.setIfInBounds_toArray, List.set_cons_zero, List.set_cons_succ]
    refine tk (v := ?_) 1 o22_14_1 (by rfl) ?_ ?_
    case refine_2 => unfold o22_14_1; intro w hSw; have p0 := HCE.out _ hSw; go_simp; (try with_reducible rfl)
    simp only [o22_14_1, Act.put, List.setIfInBounds_toArray, List.set_cons_zero, List.set_cons_succ]
    refine tk (v := ?_) 2 o22_14_2 (by rfl) ?_ ?_
    case refine_2 => unfold o22_14_2; intro w hSw; have p0 := HCE.out _ hSw; go_simp; (try with_reducible rfl)
    simp only [o22_14_2, Act.put, List.setIfInBounds_toArray, List.set_cons_zero, List.set_cons_succ]
    refine tk (v := ?_) 3 o22_14_3 (by rfl) ?_ ?_
    case refine_2 => unfold o22_14_3; intro w hSw; have p0 := HCE.out _ hSw; go_simp; (try with_reducible rfl)
    simp only [o22_14_3, Act.put, List.setIfInBounds_toArray, List.set_cons_zero, List.set_cons_succ]
    refine tks 4 o22_14_4 (by rfl) ?_
    simp only [o22_14_4, Act.put, List.setIfInBounds_toArray, List.set_cons_zero, List.set_cons_succ]
    refine tks 5 o22_14_5 (by rfl) ?_
    simp only [o22_14_5, Act.put, List.setIfInBounds_toArray, List.set_cons_zero, List.set_cons_succ]
    refine tks 6 o22_14_6 (by rfl) ?_
    simp only [o22_14_6, Act.put, List.setIfInBounds_toArray, List.set_cons_zero, List.set_cons_succ]
    refine tks 7 o22_14_7 (by rfl) ?_
    simp only [o22_14_7, Act.put, List.setIfInBounds_toArray, List.set_cons_zero, List.set_cons_succ]
    refine tk (v := ?_) 8 o22_14_8 (by rfl) ?_ ?_
    case refine_2 => unfold o22_14_8; intro w hSw; have p0 := HCE.out _ hSw; go_simp; (try with_reducible rfl)
    simp only [o22_14_8, Act.put, List.setIfInBounds_toArray, List.set_cons_zero, List.set_cons_succ]
    refine tk (v := ?_) 9 o22_14_9 (by rfl) ?_ ?_
    case refine_2 => unfold o22_14_9; intro w hSw; have p0 := HCE.out _ hSw; go_simp; (try with_reducible rfl)
    simp only [o22_14_9, Act.put, List.setIfInBounds_toArray, List.set_cons_zero, List.set_cons_succ]
    refine tks 10 o22_14_10 (by rfl) ?_
    simp only [o22_14_10, Act.put, List.setIfInBounds_toArray, List.set_cons_zero, List.set_cons_succ]
    refine tks 11 o22_14_11 (by rfl) ?_
    simp only [o22_14_11, Act.put, List.setIfInBounds_toArray, List.set_cons_zero, List.set_cons_succ]
    refine tks 12 o22_14_12 (by rfl) ?_
    simp only [o22_14_12, Act.put, List.setIfInBounds_toArray, List.set_cons_zero, List.set_cons_succ]
    refine tks 13 o22_14_13 (by rfl) ?_
    simp only [o22_14_13, Act.put, List.setIfInBounds_toArray, List.set_cons_zero, List.set_cons_succ]
    refine tks 14 o22_14_14 (by rfl) ?_
    simp only [o22_14_14, Act.put, List.setIfInBounds_toArray, List.set_cons_zero, List.set_cons_succ]
    refine tks 15 o22_14_15 (by rfl) ?_
    simp only [o22_14_15, Act.put, List.setIfInBounds_toArray, List.set_cons_zero, List.set_cons_succ]
    refine tks 16 o22_14_16 (by rfl) ?_
    simp only [o22_14_16, Act.put, List.setIfInBounds_toArray, List.set_cons_zero, List.set_cons_succ]
    refine tks 17 o22_14_17 (by rfl) ?_
    simp only [o22_14_17, Act.put, List.setIfInBounds_toArray, List.set_cons_zero, List.set_cons_succ]
    refine tks 18 o22_14_18 (by rfl) ?_
    simp only [o22_14_18, Act.put, List.setIfInBounds_toArray, List.set_cons_zero, List.set_cons_succ]
    refine tks 19 o22_14_19 (by rfl) ?_
    simp only [o22_14_19, Act.put, List.setIfInBounds_toArray, List.set_cons_zero, List.set_cons_succ]
    refine tk (v := ?_) 20 o22_14_20 (by rfl) ?_ ?_
    case refine_2 => unfold o22_14_20; intro w hSw; have p0 := HCE.out _ hSw; go_simp; (try with_reducible rfl)
    simp only [o22_14_20, Act.put, List.setIfInBounds_toArray, List.set_cons_zero, List.set_cons_succ]
    refine tk (v := ?_) 21 o22_14_21 (by rfl) ?_ ?_
    case refine_2 => unfold o22_14_21; intro w hSw; have p0 := HCE.out _ hSw; go_simp; (try with_reducible rfl)
    simp only [o22_14_21, Act.put, List.setIfInBounds_toArray, List.set_cons_zero, List.set_cons_succ]
    refine tks 22 o22_14_22 (by rfl) ?_
    simp only [o22_14_22, Act.put, List.setIfInBounds_toArray, List.set_cons_zero, List.set_cons_succ]
    refine tks 23 o22_14_23 (by rfl) ?_
    simp only [o22_14_23, Act.put, List.setIfInBounds_toArray, List.set_cons_zero, List.set_cons_succ]
    refine tks 24 o22_14_24 (by rfl) ?_
    simp only [o22_14_24, Act.put, List.setIfInBounds_toArray, List.set_cons_zero, List.set_cons_succ]
    refine tks 25 o22_14_25 (by rfl) ?_
    simp only [o22_14_25, Act.put, List.setIfInBounds_toArray, List.set_cons_zero, List.set_cons_succ]
    refine tks 26 o22_14_26 (by rfl) ?_
    simp only [o22_14_26, Act.put, List.setIfInBounds_toArray, List.set_cons_zero, List.set_cons_succ]
    refine tks 27 o22_14_27 (by rfl) ?_
    simp only [o22_14_27, Act.put, List.setIfInBounds_toArray, List.set_cons_zero, List.set_cons_succ]
    refine tks 28 o22_14_28 (by rfl) ?_
    simp only [o22_14_28, Act.put, List.setIfInBounds_toArray, List.set_cons_zero, List.set_cons_succ]
    refine tks 29 o22_14_29 (by rfl) ?_
    simp only [o22_14_29, Act.put, List.setIfInBounds_toArray, List.set_cons_zero, List.set_cons_succ]
    refine tks 30 o22_14_30 (by rfl) ?_
    simp only [o22_14_30, Act.put, List.setIfInBounds_toArray, List.set_cons_zero, List.set_cons_succ]
    refine tks 31 o22_14_31 (by rfl) ?_
    simp only [o22_14_31, Act.put, List.setIfInBounds_toArray, List.set_cons_zero, List.set_cons_succ]
    refine tks 32 o22_14_32 (by rfl) ?_
    simp only [o22_14_32, Act.put, List.setIfInBounds_toArray, List.set_cons_zero, List.set_cons_succ]
    refine tks 33 o22_14_33 (by rfl) ?_
    simp only [o22_14_33, Act.put, List.setIfInBounds_toArray, List.set_cons_zero, List.set_cons_succ]
    refine tks 34 o22_14_34 (by rfl) ?_
    simp only [o22_14_34, Act.put, List.setIfInBounds_toArray, List.set_cons_zero, List.set_cons_succ]
    refine tk (v := ?_) 35 o22_14_35 (by rfl) ?_ ?_
    case refine_2 => unfold o22_14_35; intro w hSw; have p0 := HCE.out _ hSw; go_simp; (try with_reducible rfl)
    simp only [o22_14_35, Act.put, List.setIfInBounds_toArray, List.set_cons_zero, List.set_cons_succ]
    refine wpAnyH_done (by kernel_rfl) ?_ _
    exact NoPanic.normal (hQ _ _ _ _ _ _ _ _ _ _ _ _ _ _ _ _ _ _ _ _ _ _ _ _ _ _ _ _ _ _ _ _ _ _ _ _ hS0)
  have hfb : (f.kind == 2) = true := by simpa using hfk
  obtain ⟨x, y, hfo⟩ : ∃ x y, f = ov x y := by
    rcases gp_cases HGFF.out with ⟨_, h, _⟩ | ⟨x, y, h, _⟩ | ⟨x, y, h, _⟩
    · rw [h] at hfk; simp [bs] at hfk
    · first | exact ⟨x, y, h⟩ | (rw [h] at hfk; simp [ov] at hfk)
    · first | exact ⟨x, y, h⟩ | (rw [h] at hfk; simp [un] at hfk)
  by_cases hik : i + 1 < k
  rotate_left
  · have hrf : rq = false := bool_false HRQ.out (fun ⟨hi, _, _, _, h, _⟩ => hik h)
    have hik1 : ¬ (i1 : Int) < (k : Int) := by have := HI1.out; omega
    subst hrf
    have HCE : Hid _ := fun (W : World) (hSw : S2 w (.cells #[.int .i64 g.kind, .int .i64 g.n, .slice ag g.kids.length cg] 24 (0, 0)) A f af fc W) => cell_of_row _ _ 0 _ _ _ hSw.ra
    refine wp_region_held_drew (S := fun W => S2 w (.cells #[.int .i64 g.kind, .int .i64 g.n, .slice ag g.kids.length cg] 24 (0, 0)) A f af fc W) (by kernel_rfl) (by exact hS.below (below_drewN (Below.refl _ _) 1)) (fun hHeld => ?_)
    have hS0 := hHeld
    generalize hV : wq.drew = V0 at *
    clear hV
    refine tk (v := ?_) 0 o22_14_0 (by rfl) ?_ ?_
    case refine_2 => unfold o22_14_0; intro w hSw; have p0 := HCE.out _ hSw; go_simp; (try with_reducible rfl)
    simp only [o22_14_0, Act.put, List.setIfInBounds_toArray, List.set_cons_zero, List.set_cons_succ]
    refine tk (v := ?_) 1 o22_14_1 (by rfl) ?_ ?_
    case refine_2 => unfold o22_14_1; intro w hSw; have p0 := HCE.out _ hSw; go_simp; (try with_reducible rfl)
    simp only [o22_14_1, Act.put, List.setIfInBounds_toArray, List.set_cons_zero, List.set_cons_succ]
    refine tk (v := ?_) 2 o22_14_2 (by rfl) ?_ ?_
    case refine_2 => unfold o22_14_2; intro w hSw; have p0 := HCE.out _ hSw; go_simp; (try with_reducible rfl)
    simp only [o22_14_2, Act.put, List.setIfInBounds_toArray, List.set_cons_zero, List.set_cons_succ]
    refine tk (v := ?_) 3 o22_14_3 (by rfl) ?_ ?_
    case refine_2 => unfold o22_14_3; intro w hSw; have p0 := HCE.out _ hSw; go_simp; (try with_reducible rfl)
    simp only [o22_14_3, Act.put, List.setIfInBounds_toArray, List.set_cons_zero, List.set_cons_succ]
    refine tk (v := ?_) 4 o22_14_4 (by rfl) ?_ ?_
    case refine_2 => unfold o22_14_4; intro w hSw; have p0 := HCE.out _ hSw; go_simp; (try with_reducible rfl)
    simp only [o22_14_4, Act.put, List.setIfInBounds_toArray, List.set_cons_zero, List.set_cons_succ]
    refine tk (v := ?_) 5 o22_14_5 (by rfl) ?_ ?_
    case refine_2 => unfold o22_14_5; intro w hSw; have p0 := HCE.out _ hSw; go_simp; (try with_reducible rfl)
    simp only [o22_14_5, Act.put, List.setIfInBounds_toArray, List.set_cons_zero, List.set_cons_succ]
    refine tk (v := ?_) 6 o22_14_6 (by rfl) ?_ ?_
    case refine_2 => unfold o22_14_6; intro w hSw; have p0 := HCE.out _ hSw; go_simp; (try with_reducible rfl)
    simp only [o22_14_6, Act.put, List.setIfInBounds_toArray, List.set_cons_zero, List.set_cons_succ]
    refine tk (v := ?_) 7 o22_14_7 (by rfl) ?_ ?_
    case refine_2 => unfold o22_14_7; intro w hSw; have p0 := HCE.out _ hSw; go_simp; (try with_reducible rfl)
    simp only [o22_14_7, Act.put, List.setIfInBounds_toArray, List.set_cons_zero, List.set_cons_succ]
    refine tk (v := ?_) 8 o22_14_8 (by rfl) ?_ ?_
    case refine_2 => unfold o22_14_8; intro w hSw; have p0 := HCE.out _ hSw; go_simp; (try with_reducible rfl)
    simp only [o22_14_8, Act.put, List.setIfInBounds_toArray, List.set_cons_zero, List.set_cons_succ]
    refine tk (v := ?_) 9 o22_14_9 (by rfl) ?_ ?_
    case refine_2 => unfold o22_14_9; intro w hSw; have p0 := HCE.out _ hSw; go_simp; (try with_reducible rfl)
    simp only [o22_14_9, Act.put, List.setIfInBounds_toArray, List.set_cons_zero, List.set_cons_succ]
    refine tks 10 o22_14_10 (by rfl) ?_
    simp only [o22_14_10, Act.put, List.setIfInBounds_toArray, List.set_cons_zero, List.set_cons_succ]
    refine tks 11 o22_14_11 (by rfl) ?_
    simp only [o22_14_11, Act.put, List.setIfInBounds_toArray, List.set_cons_zero, List.set_cons_succ]
    refine tks 12 o22_14_12 (by rfl) ?_
    simp only [o22_14_12, Act.put, List.setIfInBounds_toArray, List.set_cons_zero, List.set_cons_succ]
    refine tks 13 o22_14_13 (by rfl) ?_
    simp only [o22_14_13, Act.put, List.setIfInBounds_toArray, List.set_cons_zero, List.set_cons_succ]
    refine tks 14 o22_14_14 (by rfl) ?_
    simp only [o22_14_14, Act.put, List.setIfInBounds_toArray, List.set_cons_zero, List.set_cons_succ]
    refine tks 15 o22_14_15 (by rfl) ?_
    simp only [o22_14_15, Act.put, List.setIfInBounds_toArray, List.set_cons_zero, List.set_cons_succ]
    refine tks 16 o22_14_16 (by rfl) ?_
    simp only [o22_14_16, Act.put, List.setIfInBounds_toArray, List.set_cons_zero, List.set_cons_succ]
    refine tks 17 o22_14_17 (by rfl) ?_
    simp only [o22_14_17, Act.put, List.setIfInBounds_toArray, List.set_cons_zero, List.set_cons_succ]
    refine tks 18 o22_14_18 (by rfl) ?_
    simp only [o22_14_18, Act.put, List.setIfInBounds_toArray, List.set_cons_zero, List.set_cons_succ]
    refine tks 19 o22_14_19 (by rfl) ?_
    simp only [o22_14_19, Act.put, List.setIfInBounds_toArray, List.set_cons_zero, List.set_cons_succ]
    refine tk (v := ?_) 20 o22_14_20 (by rfl) ?_ ?_
    case refine_2 => unfold o22_14_20; intro w hSw; have p0 := HCE.out _ hSw; go_simp; (try with_reducible rfl)
    simp only [o22_14_20, Act.put, List.setIfInBounds_toArray, List.set_cons_zero, List.set_cons_succ]
    refine tk (v := ?_) 21 o22_14_21 (by rfl) ?_ ?_
    case refine_2 => unfold o22_14_21; intro w hSw; have p0 := HCE.out _ hSw; go_simp; (try with_reducible rfl)
    simp only [o22_14_21, Act.put, List.setIfInBounds_toArray, List.set_cons_zero, List.set_cons_succ]
    refine tks 22 o22_14_22 (by rfl) ?_
    simp only [o22_14_22, Act.put, List.setIfInBounds_toArray, List.set_cons_zero, List.set_cons_succ]
    refine tks 23 o22_14_23 (by rfl) ?_
    simp only [o22_14_23, Act.put, List.setIfInBounds_toArray, List.set_cons_zero, List.set_cons_succ]
    refine tks 24 o22_14_24 (by rfl) ?_
    simp only [o22_14_24, Act.put, List.setIfInBounds_toArray, List.set_cons_zero, List.set_cons_succ]
    refine tks 25 o22_14_25 (by rfl) ?_
    simp only [o22_14_25, Act.put, List.setIfInBounds_toArray, List.set_cons_zero, List.set_cons_succ]
    refine tks 26 o22_14_26 (by rfl) ?_
    simp only [o22_14_26, Act.put, List.setIfInBounds_toArray, List.set_cons_zero, List.set_cons_succ]
    refine tks 27 o22_14_27 (by rfl) ?_
    simp only [o22_14_27, Act.put, List.setIfInBounds_toArray, List.set_cons_zero, List.set_cons_succ]
    refine tks 28 o22_14_28 (by rfl) ?_
    simp only [o22_14_28, Act.put, List.setIfInBounds_toArray, List.set_cons_zero, List.set_cons_succ]
    refine tks 29 o22_14_29 (by rfl) ?_
    simp only [o22_14_29, Act.put, List.setIfInBounds_toArray, List.set_cons_zero, List.set_cons_succ]
    refine tks 30 o22_14_30 (by rfl) ?_
    simp only [o22_14_30, Act.put, List.setIfInBounds_toArray, List.set_cons_zero, List.set_cons_succ]
    refine tks 31 o22_14_31 (by rfl) ?_
    simp only [o22_14_31, Act.put, List.setIfInBounds_toArray, List.set_cons_zero, List.set_cons_succ]
    refine tks 32 o22_14_32 (by rfl) ?_
    simp only [o22_14_32, Act.put, List.setIfInBounds_toArray, List.set_cons_zero, List.set_cons_succ]
    refine tks 33 o22_14_33 (by rfl) ?_
    simp only [o22_14_33, Act.put, List.setIfInBounds_toArray, List.set_cons_zero, List.set_cons_succ]
    refine tks 34 o22_14_34 (by rfl) ?_
    simp only [o22_14_34, Act.put, List.setIfInBounds_toArray, List.set_cons_zero, List.set_cons_succ]
    refine tk (v := ?_) 35 o22_14_35 (by rfl) ?_ ?_
    case refine_2 => unfold o22_14_35; intro w hSw; have p0 := HCE.out _ hSw; go_simp; (try with_reducible rfl)
    simp only [o22_14_35, Act.put, List.setIfInBounds_toArray, List.set_cons_zero, List.set_cons_succ]
    refine wpAnyH_done (by kernel_rfl) ?_ _
    exact NoPanic.normal (hQ _ _ _ _ _ _ _ _ _ _ _ _ _ _ _ _ _ _ _ _ _ _ _ _ _ _ _ _ _ _ _ _ _ _ _ _ hS0)
  have hik1 : (i1 : Int) < (k : Int) := by have := HI1.out; omega
  have hik2 : (i1 : Int) ≤ (k : Int) := by omega
  have hci : ¬ c = i1 := by omega
  have hT2 : TyQ w d (ov x y) af fc := hfo ▸ HT.out
  have hfl0 : 0 < f.kids.length := by rw [hfo]; simp [ov]
  have hfl1 : 1 < f.kids.length := by rw [hfo]; simp [ov]
  have hfm : f.kids.length - 1 = 1 := by rw [hfo]; simp [ov]
  have hfl0' : (0 : Int) < (f.kids.length : Int) := by omega
  have hfl1' : (1 : Int) < (f.kids.length : Int) := by omega
  have hfl1'' : (1 : Int) ≤ (f.kids.length : Int) := by omega
  have hfc2 : 2 ≤ fc := by obtain ⟨d', rfl⟩ := hT2.pos; have := hT2.1; simpa [ov] using this
  have hfc : (1 : Int) ≤ (fc : Int) := by omega
  have hfcn : ¬ fc = 1 := by omega
  obtain ⟨d', rfl⟩ := hT2.pos
  obtain ⟨fg, fo, ax, cx, rfl, hfg, y0, y1, y2, hx0⟩ := hT2.kid (j := 0) (by simp [ov])
  obtain ⟨fg2, fo2, ay, cy, ef, hfg2, y3, y4, y5, hx1⟩ := hT2.kid (j := 1) (by simp [ov])
  simp only [Option.some.injEq, Addr.mk.injEq, and_true] at ef
  obtain ⟨rfl, rfl⟩ := ef
  have HKT0 := hT2.ls
  simp only [ov, List.getElem_cons_zero, List.getElem_cons_succ, Nat.zero_mul, Nat.add_zero, Nat.one_mul] at y0 y1 y2 y3 y4 y5 hx0 hx1 HKT0
  have HY : Hid (TyQ w d' y ay cy) := hx1
  have HKT : Hid (LsQ w d' [x] (some ⟨fg, fo, none⟩) fc) := by show LsQ w _ [x] _ _; have := LsQ.take HKT0 1; simpa using this
  obtain ⟨D, hD⟩ : ∃ D, (l.drop (i + 1)).take (k - (i + 1)) = D := ⟨_, rfl⟩
  obtain ⟨G, hG_⟩ : ∃ G, l.take i = G := ⟨_, rfl⟩
  obtain ⟨H, hH_⟩ : ∃ H, l.drop k = H := ⟨_, rfl⟩
  obtain ⟨fl, hfl⟩ : ∃ fl, G ++ [x] ++ H = fl := ⟨_, rfl⟩
  have HJN : Hid (G ++ [x] ++ H = fl) := hfl
  have hless := less_o (g := g) hil (HF.out.trans hfo) hik
  have hgps := gp_o (k := k) HGL.out hil (HF.out.trans hfo)
  rw [hD, hG_, hH_, hfl] at hless
  have HSZ2 := HSZ.out
  have HLD : Hid (szs D + sz y < M) := by show szs D + sz y < M; omega
  have HLE : Hid (szs fl + sz g < M) := by show szs fl + sz g < M; omega
  have HFL : Hid (fl.length ≤ 1000) := by have := szs_len fl; have := HM.out; show fl.length ≤ 1000; omega
  have HGY : Hid (Gp y) := hgps.2.1
  have HGD : Hid (∀ t ∈ D, Gp t) := by rw [← hD]; exact hgps.2.2.1 _
  have HGF : Hid (∀ t ∈ fl, Gp t) := by rw [← hfl, ← hG_, ← hH_]; exact hgps.2.2.2
  have HNE : Hid (fl ≠ []) := by show fl ≠ []; rw [← hfl]; simp
  have HDL : Hid (D.length = k - i1) := by show D.length = k - i1; rw [← hD, List.length_take, List.length_drop]; have := HI1.out; omega
  have HDN : Hid (D ≠ []) := fun e => by have := HDL.out; rw [e] at this; simp at this; omega
  have HGN : Hid (G.length = i) := by show G.length = i; rw [← hG_, List.length_take]; omega
  have HHN : Hid (H.length = (l.length - k)) := by show H.length = (l.length - k); rw [← hH_, List.length_drop]; (try (have := HI1.out; omega))
  have HD : Hid (LsQ w (d' + 1) D (some ⟨lg, lo + i1 * 3, none⟩) (c - i1)) := by show LsQ w (d' + 1) D (some ⟨lg, lo + i1 * 3, none⟩) (c - i1); rw [← hD]; rw [HI1.out]; exact (HL.out.drop _).take _
  have HGT : Hid (LsQ w (d' + 1) G (some ⟨lg, lo, none⟩) c) := by show LsQ w (d' + 1) G (some ⟨lg, lo, none⟩) c; rw [← hG_]; exact HL.out.take _
  have HHT : Hid (LsQ w (d' + 1) H (if c = k then (some ⟨lg, lo, none⟩ : Option Addr) else some ⟨lg, lo + k * 3, none⟩) (c - k)) := by show LsQ w (d' + 1) H (if c = k then (some ⟨lg, lo, none⟩ : Option Addr) else some ⟨lg, lo + k * 3, none⟩) (c - k); rw [← hH_]; exact HL.out.tail _ (by omega)
  obtain ⟨rD, hrD⟩ := fix_bool (E D y)
  obtain ⟨rE, hrE⟩ := fix_bool (E fl g)
  have hrr : rq = (rD && rE) := by
    have h1 : rq = true ↔ (rD = true ∧ rE = true) := by
      rw [HRQ.out, hrD, hrE]
      constructor
      · rintro ⟨hi, x', y', e, _, _, q1, q2⟩
        rw [(HF.out.trans hfo)] at e
        obtain ⟨rfl, rfl⟩ := ov_inj e
        rw [hD] at q1
        rw [hG_, hH_, hfl] at q2
        exact ⟨q1, q2⟩
      · rintro ⟨q1, q2⟩
        rw [← hD] at q1
        rw [← hfl, ← hG_, ← hH_] at q2
        exact ⟨hil, x, y, HF.out.trans hfo, hik, by omega, q1, q2⟩
    revert h1
    cases rq <;> cases rD <;> cases rE <;> simp
  have HRD : Hid (rD = true ↔ E D y) := hrD
  have HRE : Hid (rE = true ↔ E fl g) := hrE
  clear hrD hrE hless hgps HSZ2 hD hG_ hH_ hfl hx0 hx1 HKT0 hfg2 hT2 hfo hfk
  subst hrr
  cases rD with
  | false =>
    have HCE : Hid _ := fun (W : World) (hSw : S2 w (.cells #[.int .i64 g.kind, .int .i64 g.n, .slice ag g.kids.length cg] 24 (0, 0)) A f (some ⟨fg, fo, none⟩) fc W) => (And.intro (cell_of_row _ _ 0 _ _ _ hSw.ra) (And.intro (cell_of_row _ _ 2 _ _ _ hSw.ra) (And.intro (cell_of_row _ _ 0 _ _ _ hSw.box) (And.intro (cell_of_row _ _ 1 _ _ _ hSw.box) (And.intro (cell_of_row _ _ 2 _ _ _ hSw.box) (And.intro ((hSw.bel.cell (p := ⟨fg, _, none⟩) hfg).trans y0) (And.intro ((hSw.bel.cell (p := ⟨fg, _, none⟩) hfg).trans y1) (And.intro ((hSw.bel.cell (p := ⟨fg, _, none⟩) hfg).trans y2) (And.intro ((hSw.bel.cell (p := ⟨fg, _, none⟩) hfg).trans y3) (And.intro ((hSw.bel.cell (p := ⟨fg, _, none⟩) hfg).trans y4) ((hSw.bel.cell (p := ⟨fg, _, none⟩) hfg).trans y5)))))))))))
    refine wp_region_held_drew (S := fun W => S2 w (.cells #[.int .i64 g.kind, .int .i64 g.n, .slice ag g.kids.length cg] 24 (0, 0)) A f (some ⟨fg, fo, none⟩) fc W) (by kernel_rfl) (by exact hS.below (below_drewN (Below.refl _ _) 1)) (fun hHeld => ?_)
    have hS0 := hHeld
    generalize hV : wq.drew = V0 at *
    clear hV
    refine tk (v := ?_) 0 o22_14_0 (by rfl) ?_ ?_
    case refine_2 => unfold o22_14_0; intro w hSw; obtain ⟨p0, p2, b0, b1, b2, q0, q1, q2, q3, q4, q5⟩ := HCE.out _ hSw; go_simp; (try with_reducible rfl)
    simp only [o22_14_0, Act.put, List.setIfInBounds_toArray, List.set_cons_zero, List.set_cons_succ]
    refine tk (v := ?_) 1 o22_14_1 (by rfl) ?_ ?_
    case refine_2 => unfold o22_14_1; intro w hSw; obtain ⟨p0, p2, b0, b1, b2, q0, q1, q2, q3, q4, q5⟩ := HCE.out _ hSw; go_simp; (try with_reducible rfl)
    simp only [o22_14_1, Act.put, List.setIfInBounds_toArray, List.set_cons_zero, List.set_cons_succ]
    refine tk (v := ?_) 2 o22_14_2 (by rfl) ?_ ?_
    case refine_2 => unfold o22_14_2; intro w hSw; obtain ⟨p0, p2, b0, b1, b2, q0, q1, q2, q3, q4, q5⟩ := HCE.out _ hSw; go_simp; (try with_reducible rfl)
    simp only [o22_14_2, Act.put, List.setIfInBounds_toArray, List.set_cons_zero, List.set_cons_succ]
    refine tk (v := ?_) 3 o22_14_3 (by rfl) ?_ ?_
    case refine_2 => unfold o22_14_3; intro w hSw; obtain ⟨p0, p2, b0, b1, b2, q0, q1, q2, q3, q4, q5⟩ := HCE.out _ hSw; go_simp; (try with_reducible rfl)
    simp only [o22_14_3, Act.put, List.setIfInBounds_toArray, List.set_cons_zero, List.set_cons_succ]
    refine tk (v := ?_) 4 o22_14_4 (by rfl) ?_ ?_
    case refine_2 => unfold o22_14_4; intro w hSw; obtain ⟨p0, p2, b0, b1, b2, q0, q1, q2, q3, q4, q5⟩ := HCE.out _ hSw; go_simp; (try with_reducible rfl)
    simp only [o22_14_4, Act.put, List.setIfInBounds_toArray, List.set_cons_zero, List.set_cons_succ]
    refine tk (v := ?_) 5 o22_14_5 (by rfl) ?_ ?_
    case refine_2 => unfold o22_14_5; intro w hSw; obtain ⟨p0, p2, b0, b1, b2, q0, q1, q2, q3, q4, q5⟩ := HCE.out _ hSw; go_simp; (try with_reducible rfl)
    simp only [o22_14_5, Act.put, List.setIfInBounds_toArray, List.set_cons_zero, List.set_cons_succ]
    refine tk (v := ?_) 6 o22_14_6 (by rfl) ?_ ?_
    case refine_2 => unfold o22_14_6; intro w hSw; obtain ⟨p0, p2, b0, b1, b2, q0, q1, q2, q3, q4, q5⟩ := HCE.out _ hSw; go_simp; (try with_reducible rfl)
    simp only [o22_14_6, Act.put, List.setIfInBounds_toArray, List.set_cons_zero, List.set_cons_succ]
    refine tk (v := ?_) 7 o22_14_7 (by rfl) ?_ ?_
    case refine_2 => unfold o22_14_7; intro w hSw; obtain ⟨p0, p2, b0, b1, b2, q0, q1, q2, q3, q4, q5⟩ := HCE.out _ hSw; go_simp; (try with_reducible rfl)
    simp only [o22_14_7, Act.put, List.setIfInBounds_toArray, List.set_cons_zero, List.set_cons_succ]
    refine tk (v := ?_) 8 o22_14_8 (by rfl) ?_ ?_
    case refine_2 => unfold o22_14_8; intro w hSw; obtain ⟨p0, p2, b0, b1, b2, q0, q1, q2, q3, q4, q5⟩ := HCE.out _ hSw; go_simp; (try with_reducible rfl)
    simp only [o22_14_8, Act.put, List.setIfInBounds_toArray, List.set_cons_zero, List.set_cons_succ]
    refine tk (v := ?_) 9 o22_14_9 (by rfl) ?_ ?_
    case refine_2 => unfold o22_14_9; intro w hSw; obtain ⟨p0, p2, b0, b1, b2, q0, q1, q2, q3, q4, q5⟩ := HCE.out _ hSw; go_simp; (try with_reducible rfl)
    simp only [o22_14_9, Act.put, List.setIfInBounds_toArray, List.set_cons_zero, List.set_cons_succ]
    refine tk (v := ?_) 10 o22_14_10 (by rfl) ?_ ?_
    case refine_2 => unfold o22_14_10; intro w hSw; obtain ⟨p0, p2, b0, b1, b2, q0, q1, q2, q3, q4, q5⟩ := HCE.out _ hSw; go_simp; (try with_reducible rfl)
    simp only [o22_14_10, Act.put, List.setIfInBounds_toArray, List.set_cons_zero, List.set_cons_succ]
    refine tk (v := ?_) 11 o22_14_11 (by rfl) ?_ ?_
    case refine_2 => unfold o22_14_11; intro w hSw; obtain ⟨p0, p2, b0, b1, b2, q0, q1, q2, q3, q4, q5⟩ := HCE.out _ hSw; go_simp; (try with_reducible rfl)
    simp only [o22_14_11, Act.put, List.setIfInBounds_toArray, List.set_cons_zero, List.set_cons_succ]
    refine tk (v := ?_) 12 o22_14_12 (by rfl) ?_ ?_
    case refine_2 => unfold o22_14_12; intro w hSw; obtain ⟨p0, p2, b0, b1, b2, q0, q1, q2, q3, q4, q5⟩ := HCE.out _ hSw; go_simp; (try with_reducible rfl)
    simp only [o22_14_12, Act.put, List.setIfInBounds_toArray, List.set_cons_zero, List.set_cons_succ]
    refine tk (v := ?_) 13 o22_14_13 (by rfl) ?_ ?_
    case refine_2 => unfold o22_14_13; intro w hSw; obtain ⟨p0, p2, b0, b1, b2, q0, q1, q2, q3, q4, q5⟩ := HCE.out _ hSw; go_simp; (try with_reducible rfl)
    simp only [o22_14_13, Act.put, List.setIfInBounds_toArray, List.set_cons_zero, List.set_cons_succ]
    refine tk (v := ?_) 14 o22_14_14 (by rfl) ?_ ?_
    case refine_2 => unfold o22_14_14; intro w hSw; obtain ⟨p0, p2, b0, b1, b2, q0, q1, q2, q3, q4, q5⟩ := HCE.out _ hSw; go_simp; (try with_reducible rfl)
    simp only [o22_14_14, Act.put, List.setIfInBounds_toArray, List.set_cons_zero, List.set_cons_succ]
    refine tk (v := ?_) 15 o22_14_15 (by rfl) ?_ ?_
    case refine_2 => unfold o22_14_15; intro w hSw; obtain ⟨p0, p2, b0, b1, b2, q0, q1, q2, q3, q4, q5⟩ := HCE.out _ hSw; go_simp; (try with_reducible rfl)
    simp only [o22_14_15, Act.put, List.setIfInBounds_toArray, List.set_cons_zero, List.set_cons_succ]
    refine tk (v := ?_) 16 o22_14_16 (by rfl) ?_ ?_
    case refine_2 => unfold o22_14_16; intro w hSw; obtain ⟨p0, p2, b0, b1, b2, q0, q1, q2, q3, q4, q5⟩ := HCE.out _ hSw; go_simp; (try with_reducible rfl)
    simp only [o22_14_16, Act.put, List.setIfInBounds_toArray, List.set_cons_zero, List.set_cons_succ]
    refine tk (v := ?_) 17 o22_14_17 (by rfl) ?_ ?_
    case refine_2 => unfold o22_14_17; intro w hSw; obtain ⟨p0, p2, b0, b1, b2, q0, q1, q2, q3, q4, q5⟩ := HCE.out _ hSw; go_simp; (try with_reducible rfl)
    simp only [o22_14_17, Act.put, List.setIfInBounds_toArray, List.set_cons_zero, List.set_cons_succ]
    refine tk (v := ?_) 18 o22_14_18 (by rfl) ?_ ?_
    case refine_2 => unfold o22_14_18; intro w hSw; obtain ⟨p0, p2, b0, b1, b2, q0, q1, q2, q3, q4, q5⟩ := HCE.out _ hSw; go_simp; (try with_reducible rfl)
    simp only [o22_14_18, Act.put, List.setIfInBounds_toArray, List.set_cons_zero, List.set_cons_succ]
    refine wpAnyH_ready (rs := [19]) (by kernel_rfl) (by simp) ?_
    refine (AllReadyH.cons (o := o22_14_19) rfl (fun K hK => ?_) AllReadyH.nil)
    unfold o22_14_19
    go_simp
    have KQ := IH.out _ HLD.out _ _ D (some ⟨lg, lo + i1 * 3, none⟩) (c - i1) y ay cy V0 false (Nat.le_refl _) (HD.out.below hS0.bel) (HY.out.below hS0.bel) HGD.out HGY.out HDN.out HRD.out
    rw [HDL.out] at KQ
    unfold vty at KQ
    (with_reducible refine KQ.mono ?_)
    clear KQ
    rintro e1 V1 ⟨rfl, hb1⟩
    dsimp only
    have hS1 := hS0.below hb1
    refine hK.out _ _ ?_ (fun hHeld => ?_)
    · exact hS1
    clear hK K
    try simp only [Act.put, List.setIfInBounds_toArray, List.set_cons_zero, List.set_cons_succ]
    refine tk (v := ?_) 20 o22_14_20 (by rfl) ?_ ?_
    case refine_2 => unfold o22_14_20; intro w hSw; obtain ⟨p0, p2, b0, b1, b2, q0, q1, q2, q3, q4, q5⟩ := HCE.out _ hSw; go_simp; (try with_reducible rfl)
    simp only [o22_14_20, Act.put, List.setIfInBounds_toArray, List.set_cons_zero, List.set_cons_succ]
    refine tk (v := ?_) 21 o22_14_21 (by rfl) ?_ ?_
    case refine_2 => unfold o22_14_21; intro w hSw; obtain ⟨p0, p2, b0, b1, b2, q0, q1, q2, q3, q4, q5⟩ := HCE.out _ hSw; go_simp; (try with_reducible rfl)
    simp only [o22_14_21, Act.put, List.setIfInBounds_toArray, List.set_cons_zero, List.set_cons_succ]
    refine tks 22 o22_14_22 (by rfl) ?_
    simp only [o22_14_22, Act.put, List.setIfInBounds_toArray, List.set_cons_zero, List.set_cons_succ]
    refine tks 23 o22_14_23 (by rfl) ?_
    simp only [o22_14_23, Act.put, List.setIfInBounds_toArray, List.set_cons_zero, List.set_cons_succ]
    refine tks 24 o22_14_24 (by rfl) ?_
    simp only [o22_14_24, Act.put, List.setIfInBounds_toArray, List.set_cons_zero, List.set_cons_succ]
    refine tks 25 o22_14_25 (by rfl) ?_
    simp only [o22_14_25, Act.put, List.setIfInBounds_toArray, List.set_cons_zero, List.set_cons_succ]
    refine tks 26 o22_14_26 (by rfl) ?_
    simp only [o22_14_26, Act.put, List.setIfInBounds_toArray, List.set_cons_zero, List.set_cons_succ]
    refine tks 27 o22_14_27 (by rfl) ?_
    simp only [o22_14_27, Act.put, List.setIfInBounds_toArray, List.set_cons_zero, List.set_cons_succ]
    refine tks 28 o22_14_28 (by rfl) ?_
    simp only [o22_14_28, Act.put, List.setIfInBounds_toArray, List.set_cons_zero, List.set_cons_succ]
    refine tks 29 o22_14_29 (by rfl) ?_
    simp only [o22_14_29, Act.put, List.setIfInBounds_toArray, List.set_cons_zero, List.set_cons_succ]
    refine tks 30 o22_14_30 (by rfl) ?_
    simp only [o22_14_30, Act.put, List.setIfInBounds_toArray, List.set_cons_zero, List.set_cons_succ]
    refine tks 31 o22_14_31 (by rfl) ?_
    simp only [o22_14_31, Act.put, List.setIfInBounds_toArray, List.set_cons_zero, List.set_cons_succ]
    refine tks 32 o22_14_32 (by rfl) ?_
    simp only [o22_14_32, Act.put, List.setIfInBounds_toArray, List.set_cons_zero, List.set_cons_succ]
    refine tks 33 o22_14_33 (by rfl) ?_
    simp only [o22_14_33, Act.put, List.setIfInBounds_toArray, List.set_cons_zero, List.set_cons_succ]
    refine tks 34 o22_14_34 (by rfl) ?_
    simp only [o22_14_34, Act.put, List.setIfInBounds_toArray, List.set_cons_zero, List.set_cons_succ]
    refine tk (v := ?_) 35 o22_14_35 (by rfl) ?_ ?_
    case refine_2 => unfold o22_14_35; intro w hSw; obtain ⟨p0, p2, b0, b1, b2, q0, q1, q2, q3, q4, q5⟩ := HCE.out _ hSw; go_simp; (try with_reducible rfl)
    simp only [o22_14_35, Act.put, List.setIfInBounds_toArray, List.set_cons_zero, List.set_cons_succ]
    refine wpAnyH_done (by kernel_rfl) ?_ _
    exact NoPanic.normal (hQ _ _ _ _ _ _ _ _ _ _ _ _ _ _ _ _ _ _ _ _ _ _ _ _ _ _ _ _ _ _ _ _ _ _ _ _ hS1)
  | true =>
    have HCE : Hid _ := fun (W : World) (hSw : S2 w (.cells #[.int .i64 g.kind, .int .i64 g.n, .slice ag g.kids.length cg] 24 (0, 0)) A f (some ⟨fg, fo, none⟩) fc W) => (And.intro (cell_of_row _ _ 0 _ _ _ hSw.ra) (And.intro (cell_of_row _ _ 2 _ _ _ hSw.ra) (And.intro (cell_of_row _ _ 0 _ _ _ hSw.box) (And.intro (cell_of_row _ _ 1 _ _ _ hSw.box) (And.intro (cell_of_row _ _ 2 _ _ _ hSw.box) (And.intro ((hSw.bel.cell (p := ⟨fg, _, none⟩) hfg).trans y0) (And.intro ((hSw.bel.cell (p := ⟨fg, _, none⟩) hfg).trans y1) (And.intro ((hSw.bel.cell (p := ⟨fg, _, none⟩) hfg).trans y2) (And.intro ((hSw.bel.cell (p := ⟨fg, _, none⟩) hfg).trans y3) (And.intro ((hSw.bel.cell (p := ⟨fg, _, none⟩) hfg).trans y4) ((hSw.bel.cell (p := ⟨fg, _, none⟩) hfg).trans y5)))))))))))
    refine wp_region_held_drew (S := fun W => S2 w (.cells #[.int .i64 g.kind, .int .i64 g.n, .slice ag g.kids.length cg] 24 (0, 0)) A f (some ⟨fg, fo, none⟩) fc W) (by kernel_rfl) (by exact hS.below (below_drewN (Below.refl _ _) 1)) (fun hHeld => ?_)
    have hS0 := hHeld
    generalize hV : wq.drew = V0 at *
    clear hV
    refine tk (v := ?_) 0 o22_14_0 (by rfl) ?_ ?_
    case refine_2 => unfold o22_14_0; intro w hSw; obtain ⟨p0, p2, b0, b1, b2, q0, q1, q2, q3, q4, q5⟩ := HCE.out _ hSw; go_simp; (try with_reducible rfl)
    simp only [o22_14_0, Act.put, List.setIfInBounds_toArray, List.set_cons_zero, List.set_cons_succ]
    refine tk (v := ?_) 1 o22_14_1 (by rfl) ?_ ?_
    case refine_2 => unfold o22_14_1; intro w hSw; obtain ⟨p0, p2, b0, b1, b2, q0, q1, q2, q3, q4, q5⟩ := HCE.out _ hSw; go_simp; (try with_reducible rfl)
    simp only [o22_14_1, Act.put, List.setIfInBounds_toArray, List.set_cons_zero, List.set_cons_succ]
    refine tk (v := ?_) 2 o22_14_2 (by rfl) ?_ ?_
    case refine_2 => unfold o22_14_2; intro w hSw; obtain ⟨p0, p2, b0, b1, b2, q0, q1, q2, q3, q4, q5⟩ := HCE.out _ hSw; go_simp; (try with_reducible rfl)
    simp only [o22_14_2, Act.put, List.setIfInBounds_toArray, List.set_cons_zero, List.set_cons_succ]
    refine tk (v := ?_) 3 o22_14_3 (by rfl) ?_ ?_
    case refine_2 => unfold o22_14_3; intro w hSw; obtain ⟨p0, p2, b0, b1, b2, q0, q1, q2, q3, q4, q5⟩ := HCE.out _ hSw; go_simp; (try with_reducible rfl)
    simp only [o22_14_3, Act.put, List.setIfInBounds_toArray, List.set_cons_zero, List.set_cons_succ]
    refine tk (v := ?_) 4 o22_14_4 (by rfl) ?_ ?_
    case refine_2 => unfold o22_14_4; intro w hSw; obtain ⟨p0, p2, b0, b1, b2, q0, q1, q2, q3, q4, q5⟩ := HCE.out _ hSw; go_simp; (try with_reducible rfl)
    simp only [o22_14_4, Act.put, List.setIfInBounds_toArray, List.set_cons_zero, List.set_cons_succ]
    refine tk (v := ?_) 5 o22_14_5 (by rfl) ?_ ?_
    case refine_2 => unfold o22_14_5; intro w hSw; obtain ⟨p0, p2, b0, b1, b2, q0, q1, q2, q3, q4, q5⟩ := HCE.out _ hSw; go_simp; (try with_reducible rfl)
    simp only [o22_14_5, Act.put, List.setIfInBounds_toArray, List.set_cons_zero, List.set_cons_succ]
    refine tk (v := ?_) 6 o22_14_6 (by rfl) ?_ ?_
    case refine_2 => unfold o22_14_6; intro w hSw; obtain ⟨p0, p2, b0, b1, b2, q0, q1, q2, q3, q4, q5⟩ := HCE.out _ hSw; go_simp; (try with_reducible rfl)
    simp only [o22_14_6, Act.put, List.setIfInBounds_toArray, List.set_cons_zero, List.set_cons_succ]
    refine tk (v := ?_) 7 o22_14_7 (by rfl) ?_ ?_
    case refine_2 => unfold o22_14_7; intro w hSw; obtain ⟨p0, p2, b0, b1, b2, q0, q1, q2, q3, q4, q5⟩ := HCE.out _ hSw; go_simp; (try with_reducible rfl)
    simp only [o22_14_7, Act.put, List.setIfInBounds_toArray, List.set_cons_zero, List.set_cons_succ]
    refine tk (v := ?_) 8 o22_14_8 (by rfl) ?_ ?_
    case refine_2 => unfold o22_14_8; intro w hSw; obtain ⟨p0, p2, b0, b1, b2, q0, q1, q2, q3, q4, q5⟩ := HCE.out _ hSw; go_simp; (try with_reducible rfl)
    simp only [o22_14_8, Act.put, List.setIfInBounds_toArray, List.set_cons_zero, List.set_cons_succ]
    refine tk (v := ?_) 9 o22_14_9 (by rfl) ?_ ?_
    case refine_2 => unfold o22_14_9; intro w hSw; obtain ⟨p0, p2, b0, b1, b2, q0, q1, q2, q3, q4, q5⟩ := HCE.out _ hSw; go_simp; (try with_reducible rfl)
    simp only [o22_14_9, Act.put, List.setIfInBounds_toArray, List.set_cons_zero, List.set_cons_succ]
    refine tk (v := ?_) 10 o22_14_10 (by rfl) ?_ ?_
    case refine_2 => unfold o22_14_10; intro w hSw; obtain ⟨p0, p2, b0, b1, b2, q0, q1, q2, q3, q4, q5⟩ := HCE.out _ hSw; go_simp; (try with_reducible rfl)
    simp only [o22_14_10, Act.put, List.setIfInBounds_toArray, List.set_cons_zero, List.set_cons_succ]
    refine tk (v := ?_) 11 o22_14_11 (by rfl) ?_ ?_
    case refine_2 => unfold o22_14_11; intro w hSw; obtain ⟨p0, p2, b0, b1, b2, q0, q1, q2, q3, q4, q5⟩ := HCE.out _ hSw; go_simp; (try with_reducible rfl)
    simp only [o22_14_11, Act.put, List.setIfInBounds_toArray, List.set_cons_zero, List.set_cons_succ]
    refine tk (v := ?_) 12 o22_14_12 (by rfl) ?_ ?_
    case refine_2 => unfold o22_14_12; intro w hSw; obtain ⟨p0, p2, b0, b1, b2, q0, q1, q2, q3, q4, q5⟩ := HCE.out _ hSw; go_simp; (try with_reducible rfl)
    simp only [o22_14_12, Act.put, List.setIfInBounds_toArray, List.set_cons_zero, List.set_cons_succ]
    refine tk (v := ?_) 13 o22_14_13 (by rfl) ?_ ?_
    case refine_2 => unfold o22_14_13; intro w hSw; obtain ⟨p0, p2, b0, b1, b2, q0, q1, q2, q3, q4, q5⟩ := HCE.out _ hSw; go_simp; (try with_reducible rfl)
    simp only [o22_14_13, Act.put, List.setIfInBounds_toArray, List.set_cons_zero, List.set_cons_succ]
    refine tk (v := ?_) 14 o22_14_14 (by rfl) ?_ ?_
    case refine_2 => unfold o22_14_14; intro w hSw; obtain ⟨p0, p2, b0, b1, b2, q0, q1, q2, q3, q4, q5⟩ := HCE.out _ hSw; go_simp; (try with_reducible rfl)
    simp only [o22_14_14, Act.put, List.setIfInBounds_toArray, List.set_cons_zero, List.set_cons_succ]
    refine tk (v := ?_) 15 o22_14_15 (by rfl) ?_ ?_
    case refine_2 => unfold o22_14_15; intro w hSw; obtain ⟨p0, p2, b0, b1, b2, q0, q1, q2, q3, q4, q5⟩ := HCE.out _ hSw; go_simp; (try with_reducible rfl)
    simp only [o22_14_15, Act.put, List.setIfInBounds_toArray, List.set_cons_zero, List.set_cons_succ]
    refine tk (v := ?_) 16 o22_14_16 (by rfl) ?_ ?_
    case refine_2 => unfold o22_14_16; intro w hSw; obtain ⟨p0, p2, b0, b1, b2, q0, q1, q2, q3, q4, q5⟩ := HCE.out _ hSw; go_simp; (try with_reducible rfl)
    simp only [o22_14_16, Act.put, List.setIfInBounds_toArray, List.set_cons_zero, List.set_cons_succ]
    refine tk (v := ?_) 17 o22_14_17 (by rfl) ?_ ?_
    case refine_2 => unfold o22_14_17; intro w hSw; obtain ⟨p0, p2, b0, b1, b2, q0, q1, q2, q3, q4, q5⟩ := HCE.out _ hSw; go_simp; (try with_reducible rfl)
    simp only [o22_14_17, Act.put, List.setIfInBounds_toArray, List.set_cons_zero, List.set_cons_succ]
    refine tk (v := ?_) 18 o22_14_18 (by rfl) ?_ ?_
    case refine_2 => unfold o22_14_18; intro w hSw; obtain ⟨p0, p2, b0, b1, b2, q0, q1, q2, q3, q4, q5⟩ := HCE.out _ hSw; go_simp; (try with_reducible rfl)
    simp only [o22_14_18, Act.put, List.setIfInBounds_toArray, List.set_cons_zero, List.set_cons_succ]
    refine wpAnyH_ready (rs := [19]) (by kernel_rfl) (by simp) ?_
    refine (AllReadyH.cons (o := o22_14_19) rfl (fun K hK => ?_) AllReadyH.nil)
    unfold o22_14_19
    go_simp
    have KQ := IH.out _ HLD.out _ _ D (some ⟨lg, lo + i1 * 3, none⟩) (c - i1) y ay cy V0 true (Nat.le_refl _) (HD.out.below hS0.bel) (HY.out.below hS0.bel) HGD.out HGY.out HDN.out HRD.out
    rw [HDL.out] at KQ
    unfold vty at KQ
    (with_reducible refine KQ.mono ?_)
    clear KQ
    rintro e1 V1 ⟨rfl, hb1⟩
    dsimp only
    have hS1 := hS0.below hb1
    refine hK.out _ _ ?_ (fun hHeld => ?_)
    · exact hS1
    clear hK K
    try simp only [Act.put, List.setIfInBounds_toArray, List.set_cons_zero, List.set_cons_succ]
    refine tk (v := ?_) 20 o22_14_20 (by rfl) ?_ ?_
    case refine_2 => unfold o22_14_20; intro w hSw; obtain ⟨p0, p2, b0, b1, b2, q0, q1, q2, q3, q4, q5⟩ := HCE.out _ hSw; go_simp; (try with_reducible rfl)
    simp only [o22_14_20, Act.put, List.setIfInBounds_toArray, List.set_cons_zero, List.set_cons_succ]
    refine tk (v := ?_) 21 o22_14_21 (by rfl) ?_ ?_
    case refine_2 => unfold o22_14_21; intro w hSw; obtain ⟨p0, p2, b0, b1, b2, q0, q1, q2, q3, q4, q5⟩ := HCE.out _ hSw; go_simp; (try with_reducible rfl)
    simp only [o22_14_21, Act.put, List.setIfInBounds_toArray, List.set_cons_zero, List.set_cons_succ]
    refine tk (v := ?_) 22 o22_14_22 (by rfl) ?_ ?_
    case refine_2 => unfold o22_14_22; intro w hSw; obtain ⟨p0, p2, b0, b1, b2, q0, q1, q2, q3, q4, q5⟩ := HCE.out _ hSw; go_simp; (try with_reducible rfl)
    simp only [o22_14_22, Act.put, List.setIfInBounds_toArray, List.set_cons_zero, List.set_cons_succ]
    refine tk (v := ?_) 23 o22_14_23 (by rfl) ?_ ?_
    case refine_2 => unfold o22_14_23; intro w hSw; obtain ⟨p0, p2, b0, b1, b2, q0, q1, q2, q3, q4, q5⟩ := HCE.out _ hSw; go_simp; (try with_reducible rfl)
    simp only [o22_14_23, Act.put, List.setIfInBounds_toArray, List.set_cons_zero, List.set_cons_succ]
    refine tk (v := ?_) 24 o22_14_24 (by rfl) ?_ ?_
    case refine_2 => unfold o22_14_24; intro w hSw; obtain ⟨p0, p2, b0, b1, b2, q0, q1, q2, q3, q4, q5⟩ := HCE.out _ hSw; go_simp; (try with_reducible rfl)
    simp only [o22_14_24, Act.put, List.setIfInBounds_toArray, List.set_cons_zero, List.set_cons_succ]
    refine tk (v := ?_) 25 o22_14_25 (by rfl) ?_ ?_
    case refine_2 => unfold o22_14_25; intro w hSw; obtain ⟨p0, p2, b0, b1, b2, q0, q1, q2, q3, q4, q5⟩ := HCE.out _ hSw; go_simp; (try with_reducible rfl)
    simp only [o22_14_25, Act.put, List.setIfInBounds_toArray, List.set_cons_zero, List.set_cons_succ]
    refine tk (v := ?_) 26 o22_14_26 (by rfl) ?_ ?_
    case refine_2 => unfold o22_14_26; intro w hSw; obtain ⟨p0, p2, b0, b1, b2, q0, q1, q2, q3, q4, q5⟩ := HCE.out _ hSw; go_simp; (try with_reducible rfl)
    simp only [o22_14_26, Act.put, List.setIfInBounds_toArray, List.set_cons_zero, List.set_cons_succ]
    refine tk (v := ?_) 27 o22_14_27 (by rfl) ?_ ?_
    case refine_2 => unfold o22_14_27; intro w hSw; obtain ⟨p0, p2, b0, b1, b2, q0, q1, q2, q3, q4, q5⟩ := HCE.out _ hSw; go_simp; (try with_reducible rfl)
    simp only [o22_14_27, Act.put, List.setIfInBounds_toArray, List.set_cons_zero, List.set_cons_succ]
    refine tk (v := ?_) 28 o22_14_28 (by rfl) ?_ ?_
    case refine_2 => unfold o22_14_28; intro w hSw; obtain ⟨p0, p2, b0, b1, b2, q0, q1, q2, q3, q4, q5⟩ := HCE.out _ hSw; go_simp; (try with_reducible rfl)
    simp only [o22_14_28, Act.put, List.setIfInBounds_toArray, List.set_cons_zero, List.set_cons_succ]
    refine tk (v := ?_) 29 o22_14_29 (by rfl) ?_ ?_
    case refine_2 => unfold o22_14_29; intro w hSw; obtain ⟨p0, p2, b0, b1, b2, q0, q1, q2, q3, q4, q5⟩ := HCE.out _ hSw; go_simp; (try with_reducible rfl)
    simp only [o22_14_29, Act.put, List.setIfInBounds_toArray, List.set_cons_zero, List.set_cons_succ]
    refine tk (v := ?_) 33 o22_14_33 (by rfl) ?_ ?_
    case refine_2 => unfold o22_14_33; intro w hSw; obtain ⟨p0, p2, b0, b1, b2, q0, q1, q2, q3, q4, q5⟩ := HCE.out _ hSw; go_simp; (try with_reducible rfl)
    simp only [o22_14_33, Act.put, List.setIfInBounds_toArray, List.set_cons_zero, List.set_cons_succ]
    refine wpAnyH_ready (rs := [30]) (by kernel_rfl) (by simp) ?_
    refine (AllReadyH.cons (o := o22_14_30) rfl (fun K hK => ?_) AllReadyH.nil)
    unfold o22_14_30
    go_simp
    refine hK.out _ _ ?_ (fun hHeld => ?_)
    · exact hS1
    clear hK K
    try simp only [Act.put, List.setIfInBounds_toArray, List.set_cons_zero, List.set_cons_succ]
    generalize (if c = k then (some ⟨lg, lo, none⟩ : Option Addr) else some ⟨lg, lo + k * 3, none⟩) = bA at *
    refine wpAnyH_ready (rs := [31]) (by kernel_rfl) (by simp) ?_
    refine (AllReadyH.cons (o := o22_14_31) rfl (fun K hK => ?_) AllReadyH.nil)
    unfold o22_14_31
    go_simp
    have hn2 : (V1.alloc (.cells #[.slice (some ⟨lg, lo, none⟩) i c, .slice (some ⟨fg, fo, none⟩) 1 fc, .slice bA (l.length - k) (c - k)] 22)).heap[V1.heap.size]? = some (.cells #[.slice (some ⟨lg, lo, none⟩) G.length c, .slice (some ⟨fg, fo, none⟩) [x].length fc, .slice bA H.length (c - k)] 22 (0, 0)) := by rw [HGN.out, HHN.out]; exact heap_alloc_new V1 (.cells #[.slice (some ⟨lg, lo, none⟩) i c, .slice (some ⟨fg, fo, none⟩) 1 fc, .slice bA (l.length - k) (c - k)] 22)
    have hb2 : Below V1.heap.size V1 (V1.alloc (.cells #[.slice (some ⟨lg, lo, none⟩) i c, .slice (some ⟨fg, fo, none⟩) 1 fc, .slice bA (l.length - k) (c - k)] 22)) := (Below.refl _ V1).alloc (Nat.le_refl _) _
    have hS2 := hS1.below hb2
    refine hK.out _ _ ?_ (fun hHeld => ?_)
    · exact hS2
    clear hK K
    try simp only [Act.put, List.setIfInBounds_toArray, List.set_cons_zero, List.set_cons_succ]
    generalize hV : V1.alloc (.cells #[.slice (some ⟨lg, lo, none⟩) i c, .slice (some ⟨fg, fo, none⟩) 1 fc, .slice bA (l.length - k) (c - k)] 22) = V2 at *
    clear hV
    refine wpAnyH_ready (rs := [32]) (by kernel_rfl) (by simp) ?_
    refine (AllReadyH.cons (o := o22_14_32) rfl (fun K hK => ?_) AllReadyH.nil)
    unfold o22_14_32
    go_simp
    (with_reducible refine (joinq3 V1.heap.size G [x] H fl HJN.out V2 hn2 (HGT.out.below hS2.bel) (HKT.out.below hS2.bel) (HHT.out.below hS2.bel) HFL.out).mono ?_)
    rintro e3 V3 ⟨aj, cj, rfl, hT3, hb3⟩
    dsimp only
    have hS3 := hS2.below hb3
    refine hK.out _ _ ?_ (fun hHeld => ?_)
    · exact hS3
    clear hK K
    try simp only [Act.put, List.setIfInBounds_toArray, List.set_cons_zero, List.set_cons_succ]
    refine wpAnyH_ready (rs := [34]) (by kernel_rfl) (by simp) ?_
    refine (AllReadyH.cons (o := o22_14_34) rfl (fun K hK => ?_) AllReadyH.nil)
    unfold o22_14_34
    go_simp
    have KQ := IH.out _ HLE.out _ _ fl aj cj g ag cg V3 rE (Nat.le_refl _) hT3 (HG.out.below hS3.bel) HGF.out HGG.out HNE.out HRE.out
    unfold vty at KQ
    (with_reducible refine KQ.mono ?_)
    clear KQ
    rintro e4 V4 ⟨rfl, hb4⟩
    dsimp only
    have hS4 := hS3.below hb4
    refine hK.out _ _ ?_ (fun hHeld => ?_)
    · exact hS4
    clear hK K
    try simp only [Act.put, List.setIfInBounds_toArray, List.set_cons_zero, List.set_cons_succ]
    refine tk (v := ?_) 35 o22_14_35 (by rfl) ?_ ?_
    case refine_2 => unfold o22_14_35; intro w hSw; obtain ⟨p0, p2, b0, b1, b2, q0, q1, q2, q3, q4, q5⟩ := HCE.out _ hSw; go_simp; (try with_reducible rfl)
    simp only [o22_14_35, Act.put, List.setIfInBounds_toArray, List.set_cons_zero, List.set_cons_succ]
    refine wpAnyH_done (by kernel_rfl) ?_ _
    exact NoPanic.normal (hQ _ _ _ _ _ _ _ _ _ _ _ _ _ _ _ _ _ _ _ _ _ _ _ _ _ _ _ _ _ _ _ _ _ _ _ _ hS4)
end Go.Proofs.Ytbmgkgoghgdbhaa.Te
/- A region of the document's Proves. Condition: the sequent is small. -/
namespace Go.Proofs.Ytbmgkgoghgdbhaa.Te
open Go.RowKit

def o22_16_0 : Oper := { dst := some 117, op := Op.fieldAddr 24 (Operand.tmp 6) 0, type := 0, pos := "speech.go:277", after := #[], guard := none }
def o22_16_1 : Oper := { dst := some 118, op := Op.load 3 (Operand.tmp 117), type := 3, pos := "speech.go:277", after := #[{ on := 0, ground := Ground.data }], guard := none }
def o22_16_2 : Oper := { dst := some 119, op := Op.binOp BinOp.eql 3 (Operand.tmp 118) (Operand.const (Value.int IntKind.i64 3)) 3, type := 4, pos := "speech.go:277", after := #[{ on := 1, ground := Ground.data }], guard := none }
def o22_16_3 : Oper := { dst := some 120, op := Op.move (Operand.tmp 119), type := 4, pos := "speech.go:277", after := #[{ on := 2, ground := Ground.data }], guard := none }
def o22_16_4 : Oper := { dst := some 121, op := Op.move (Operand.tmp 7), type := 3, pos := "speech.go:277", after := #[{ on := 3, ground := Ground.guard }], guard := some (3, true) }
def o22_16_5 : Oper := { dst := some 122, op := Op.move (Operand.tmp 5), type := 3, pos := "speech.go:277", after := #[{ on := 3, ground := Ground.guard }], guard := some (3, true) }
def o22_16_6 : Oper := { dst := some 123, op := Op.binOp BinOp.lss 3 (Operand.tmp 121) (Operand.tmp 122) 3, type := 4, pos := "speech.go:277", after := #[{ on := 4, ground := Ground.data }, { on := 5, ground := Ground.data }, { on := 3, ground := Ground.guard }], guard := some (3, true) }
def o22_16_7 : Oper := { dst := some 124, op := Op.pick (Operand.tmp 120) (Operand.tmp 123) (Operand.const (Value.bool false)), type := 4, pos := "speech.go:277", after := #[{ on := 3, ground := Ground.data }, { on := 6, ground := Ground.data }], guard := none }
def o22_16_8 : Oper := { dst := some 125, op := Op.move (Operand.tmp 124), type := 4, pos := "speech.go:277", after := #[{ on := 7, ground := Ground.data }, { on := 3, ground := Ground.chain }], guard := none }
def o22_16_9 : Oper := { dst := some 126, op := Op.move (Operand.tmp 0), type := 22, pos := "speech.go:277", after := #[{ on := 8, ground := Ground.guard }], guard := some (8, true) }
def o22_16_10 : Oper := { dst := some 127, op := Op.move (Operand.tmp 7), type := 3, pos := "speech.go:277", after := #[{ on := 8, ground := Ground.guard }], guard := some (8, true) }
def o22_16_11 : Oper := { dst := some 128, op := Op.move (Operand.tmp 5), type := 3, pos := "speech.go:277", after := #[{ on := 8, ground := Ground.guard }], guard := some (8, true) }
def o22_16_12 : Oper := { dst := some 129, op := Op.slice 22 (Operand.tmp 126) (some (Operand.tmp 127)) (some (Operand.tmp 128)) none, type := 22, pos := "speech.go:277", after := #[{ on := 9, ground := Ground.data }, { on := 10, ground := Ground.data }, { on := 11, ground := Ground.data }, { on := 8, ground := Ground.guard }], guard := some (8, true) }
def o22_16_13 : Oper := { dst := some 130, op := Op.fieldAddr 24 (Operand.tmp 6) 2, type := 0, pos := "speech.go:277", after := #[{ on := 8, ground := Ground.guard }], guard := some (8, true) }
def o22_16_14 : Oper := { dst := some 131, op := Op.load 22 (Operand.tmp 130), type := 22, pos := "speech.go:277", after := #[{ on := 13, ground := Ground.data }, { on := 8, ground := Ground.guard }], guard := some (8, true) }
def o22_16_15 : Oper := { dst := some 132, op := Op.indexAddr 22 (Operand.tmp 131) (Operand.const (Value.int IntKind.i64 0)), type := 0, pos := "speech.go:277", after := #[{ on := 14, ground := Ground.data }, { on := 8, ground := Ground.guard }], guard := some (8, true) }
def o22_16_16 : Oper := { dst := some 133, op := Op.load 24 (Operand.tmp 132), type := 24, pos := "speech.go:277", after := #[{ on := 15, ground := Ground.data }, { on := 8, ground := Ground.guard }], guard := some (8, true) }
def o22_16_17 : Oper := { dst := some 134, op := Op.call { callee := Callee.value (Operand.func 22), args := #[Operand.tmp 129, Operand.tmp 133], argTypes := #[22, 24] }, type := 4, pos := "speech.go:277", after := #[{ on := 12, ground := Ground.data }, { on := 16, ground := Ground.data }, { on := 8, ground := Ground.chain }, { on := 8, ground := Ground.guard }], guard := some (8, true) }
def o22_16_18 : Oper := { dst := some 135, op := Op.pick (Operand.tmp 125) (Operand.tmp 134) (Operand.const (Value.bool false)), type := 4, pos := "speech.go:277", after := #[{ on := 8, ground := Ground.data }, { on := 17, ground := Ground.data }], guard := none }
def o22_16_19 : Oper := { dst := some 136, op := Op.move (Operand.tmp 135), type := 4, pos := "speech.go:277", after := #[{ on := 18, ground := Ground.data }, { on := 17, ground := Ground.chain }], guard := none }
def o22_16_20 : Oper := { dst := some 137, op := Op.move (Operand.tmp 0), type := 22, pos := "speech.go:277", after := #[{ on := 19, ground := Ground.guard }], guard := some (19, true) }
def o22_16_21 : Oper := { dst := some 138, op := Op.move (Operand.tmp 7), type := 3, pos := "speech.go:277", after := #[{ on := 19, ground := Ground.guard }], guard := some (19, true) }
def o22_16_22 : Oper := { dst := some 139, op := Op.slice 22 (Operand.tmp 137) none (some (Operand.tmp 138)) none, type := 22, pos := "speech.go:277", after := #[{ on := 20, ground := Ground.data }, { on := 21, ground := Ground.data }, { on := 19, ground := Ground.guard }], guard := some (19, true) }
def o22_16_23 : Oper := { dst := some 140, op := Op.fieldAddr 24 (Operand.tmp 6) 2, type := 0, pos := "speech.go:277", after := #[{ on := 19, ground := Ground.guard }], guard := some (19, true) }
def o22_16_24 : Oper := { dst := some 141, op := Op.load 22 (Operand.tmp 140), type := 22, pos := "speech.go:277", after := #[{ on := 23, ground := Ground.data }, { on := 19, ground := Ground.guard }], guard := some (19, true) }
def o22_16_25 : Oper := { dst := some 142, op := Op.slice 22 (Operand.tmp 141) (some (Operand.const (Value.int IntKind.i64 1))) none none, type := 22, pos := "speech.go:277", after := #[{ on := 24, ground := Ground.data }, { on := 19, ground := Ground.guard }], guard := some (19, true) }
def o22_16_26 : Oper := { dst := some 143, op := Op.move (Operand.tmp 0), type := 22, pos := "speech.go:277", after := #[{ on := 19, ground := Ground.guard }], guard := some (19, true) }
def o22_16_27 : Oper := { dst := some 144, op := Op.move (Operand.tmp 5), type := 3, pos := "speech.go:277", after := #[{ on := 19, ground := Ground.guard }], guard := some (19, true) }
def o22_16_28 : Oper := { dst := some 145, op := Op.binOp BinOp.add 3 (Operand.tmp 144) (Operand.const (Value.int IntKind.i64 1)) 3, type := 3, pos := "speech.go:277", after := #[{ on := 27, ground := Ground.data }, { on := 19, ground := Ground.guard }], guard := some (19, true) }
def o22_16_29 : Oper := { dst := some 146, op := Op.slice 22 (Operand.tmp 143) (some (Operand.tmp 145)) none none, type := 22, pos := "speech.go:277", after := #[{ on := 26, ground := Ground.data }, { on := 28, ground := Ground.data }, { on := 19, ground := Ground.guard }], guard := some (19, true) }
def o22_16_30 : Oper := { dst := some 147, op := Op.buildSlice 49 3 #[(0, Operand.tmp 139), (1, Operand.tmp 142), (2, Operand.tmp 146)], type := 49, pos := "speech.go:277", after := #[{ on := 22, ground := Ground.data }, { on := 25, ground := Ground.data }, { on := 29, ground := Ground.data }, { on := 19, ground := Ground.guard }], guard := some (19, true) }
def o22_16_31 : Oper := { dst := some 148, op := Op.call { callee := Callee.value (Operand.func 52), args := #[Operand.tmp 147], argTypes := #[49] }, type := 22, pos := "speech.go:277", after := #[{ on := 30, ground := Ground.data }, { on := 19, ground := Ground.chain }, { on := 19, ground := Ground.guard }], guard := some (19, true) }
def o22_16_32 : Oper := { dst := some 149, op := Op.load 24 (Operand.tmp 3), type := 24, pos := "speech.go:277", after := #[{ on := 19, ground := Ground.guard }], guard := some (19, true) }
def o22_16_33 : Oper := { dst := some 150, op := Op.call { callee := Callee.value (Operand.func 22), args := #[Operand.tmp 148, Operand.tmp 149], argTypes := #[22, 24] }, type := 4, pos := "speech.go:277", after := #[{ on := 31, ground := Ground.data }, { on := 32, ground := Ground.data }, { on := 31, ground := Ground.chain }, { on := 19, ground := Ground.guard }], guard := some (19, true) }
def o22_16_34 : Oper := { dst := some 151, op := Op.pick (Operand.tmp 136) (Operand.tmp 150) (Operand.const (Value.bool false)), type := 4, pos := "speech.go:277", after := #[{ on := 19, ground := Ground.data }, { on := 33, ground := Ground.data }], guard := none }
set_option maxRecDepth 100000 in
set_option maxHeartbeats 8000000 in
theorem o22r16 {M d dg : Nat} {l : List Ty} {lg lo c : Nat} {g : Ty} {ag : Option Addr} {cg : Nat} {w wq : World} {Q : Exit → Act → World → Prop} (HSZ : Hid (szs l + sz g ≤ M)) (HM : Hid (M ≤ 900)) (hlen : l.length ≤ 900) (hl0 : 0 < l.length) (hroom : l.length ≤ c) (hlg : lg < w.heap.size) (HL : Hid (LsQ w d l (some ⟨lg, lo, none⟩) c)) (HG : Hid (TyQ w dg g ag cg)) (HGL : Hid (∀ t ∈ l, Gp t)) (HGG : Hid (Gp g)) (IH : Hid (∀ M', M' < M → PvOk M')) {A : Nat} {f : Ty} {af : Option Addr} {fc i i1 k : Nat} (hil : i < l.length) (HF : Hid (l[i] = f)) (HT : Hid (TyQ w d f af fc)) (HGFF : Hid (Gp f)) (HI1 : Hid (i1 = i + 1)) (hI1 : IntKind.i64.wrap ((i : Int) + 1) = (i1 : Int)) (hkl : k ≤ l.length) (hkl' : (k : Int) ≤ (l.length : Int)) (hkc : (k : Int) ≤ (c : Int)) (hk0 : (0 : Int) ≤ (k : Int)) (hic : (i : Int) ≤ (c : Int)) (hi0 : (0 : Int) ≤ (i : Int)) (hi1c : (i1 : Int) ≤ (l.length : Int)) (hi10 : (0 : Int) ≤ (i1 : Int)) (hi1n : i1 ≤ l.length) (hil' : (i : Int) < (l.length : Int)) (hS : S2 w (.cells #[.int .i64 g.kind, .int .i64 g.n, .slice ag g.kids.length cg] 24 (0, 0)) A f af fc wq) {rq : Bool} (HRQ : Hid (rq = true ↔ Qu l g i k)) {u1 u2 u4 u8 u9 u10 u11 u12 u13 u14 u15 u16 u17 u18 u19 u20 u21 u22 u23 u24 u25 u26 u27 u28 u29 u30 u31 u32 u33 u34 u35 u36 u37 u38 u39 u40 u41 u42 u43 u44 u45 u46 u47 u48 u49 u50 u51 u52 u53 u54 u55 u56 u57 u58 u59 u60 u61 u62 u63 u64 u65 u66 u67 u68 u69 u70 u71 u72 u73 u74 u75 u76 u77 u78 u79 u80 u81 u82 u83 u84 u85 u86 u87 u88 u89 u90 u91 u92 u93 u94 u95 u96 u97 u98 u99 u100 u101 u102 u103 u104 u105 u106 u107 u108 u109 u110 u111 u112 u113 u114 u115 u116 u117 u118 u119 u120 u121 u122 u123 u124 u125 u126 u127 u128 u129 u130 u131 u132 u133 u134 u135 u136 u137 u138 u139 u140 u141 u142 u143 u144 u145 u146 u147 u148 u149 u150 u151 : Value}
    (hQ : ∀ (v117 v118 v119 v120 v121 v122 v123 v124 v125 v126 v127 v128 v129 v130 v131 v132 v133 v134 v135 v136 v137 v138 v139 v140 v141 v142 v143 v144 v145 v146 v147 v148 v149 v150 : Value) (wx : World), S2 w (.cells #[.int .i64 g.kind, .int .i64 g.n, .slice ag g.kids.length cg] 24 (0, 0)) A f af fc wx → Q .normal { tmps := #[.slice (some ⟨lg, lo, none⟩) l.length c, u1, u2, .pointer (some ⟨w.heap.size, 0, none⟩), u4, .int .i64 (i : Int), .pointer (some ⟨A, 0, none⟩), .int .i64 (k : Int), u8, u9, u10, u11, u12, u13, u14, u15, u16, u17, u18, u19, u20, u21, u22, u23, u24, u25, u26, u27, u28, u29, u30, u31, u32, u33, u34, u35, u36, u37, u38, u39, u40, u41, u42, u43, u44, u45, u46, u47, u48, u49, u50, u51, u52, u53, u54, u55, u56, u57, u58, u59, u60, u61, u62, u63, u64, u65, u66, u67, u68, u69, u70, u71, u72, u73, u74, u75, u76, u77, u78, u79, u80, u81, u82, u83, u84, u85, u86, u87, u88, u89, u90, u91, u92, u93, u94, u95, u96, u97, u98, u99, u100, u101, u102, u103, u104, u105, u106, u107, u108, u109, u110, u111, u112, u113, u114, u115, u116, v117, v118, v119, v120, v121, v122, v123, v124, v125, v126, v127, v128, v129, v130, v131, v132, v133, v134, v135, v136, v137, v138, v139, v140, v141, v142, v143, v144, v145, v146, v147, v148, v149, v150, .bool rq], defers := [] } wx) :
    (Code.region 16 #[o22_16_0, o22_16_1, o22_16_2, o22_16_3, o22_16_4, o22_16_5, o22_16_6, o22_16_7, o22_16_8, o22_16_9, o22_16_10, o22_16_11, o22_16_12, o22_16_13, o22_16_14, o22_16_15, o22_16_16, o22_16_17, o22_16_18, o22_16_19, o22_16_20, o22_16_21, o22_16_22, o22_16_23, o22_16_24, o22_16_25, o22_16_26, o22_16_27, o22_16_28, o22_16_29, o22_16_30, o22_16_31, o22_16_32, o22_16_33, o22_16_34] true).wp Try.prog Q { tmps := #[.slice (some ⟨lg, lo, none⟩) l.length c, u1, u2, .pointer (some ⟨w.heap.size, 0, none⟩), u4, .int .i64 (i : Int), .pointer (some ⟨A, 0, none⟩), .int .i64 (k : Int), u8, u9, u10, u11, u12, u13, u14, u15, u16, u17, u18, u19, u20, u21, u22, u23, u24, u25, u26, u27, u28, u29, u30, u31, u32, u33, u34, u35, u36, u37, u38, u39, u40, u41, u42, u43, u44, u45, u46, u47, u48, u49, u50, u51, u52, u53, u54, u55, u56, u57, u58, u59, u60, u61, u62, u63, u64, u65, u66, u67, u68, u69, u70, u71, u72, u73, u74, u75, u76, u77, u78, u79, u80, u81, u82, u83, u84, u85, u86, u87, u88, u89, u90, u91, u92, u93, u94, u95, u96, u97, u98, u99, u100, u101, u102, u103, u104, u105, u106, u107, u108, u109, u110, u111, u112, u113, u114, u115, u116, u117, u118, u119, u120, u121, u122, u123, u124, u125, u126, u127, u128, u129, u130, u131, u132, u133, u134, u135, u136, u137, u138, u139, u140, u141, u142, u143, u144, u145, u146, u147, u148, u149, u150, u151], defers := [] } wq := by
  have hU_ : True := (fun _ _ _ _ _ _ _ _ _ _ _ _ _ _ _ _ _ _ _ _ _ _ _ _ _ _ _ _ => trivial) HSZ HM hlen hl0 hroom hlg HL HG HGL HGG IH hil HF HT HGFF HI1 hI1 hkl hkl' hkc hk0 hic hi0 hi1c hi10 hi1n hil' hS
  clear hU_
  refine wp_region_noPanic ?_
  by_cases hfk : f.kind = 3
  rotate_left
  · have hfb : (f.kind == 3) = false := by simpa using hfk
    have hrf : rq = false := bool_false HRQ.out (fun ⟨hi, x, y, e, _⟩ => hfk (by rw [← HF.out, e]; rfl))
    subst hrf
    have HCE : Hid _ := fun (W : World) (hSw : S2 w (.cells #[.int .i64 g.kind, .int .i64 g.n, .slice ag g.kids.length cg] 24 (0, 0)) A f af fc W) => cell_of_row _ _ 0 _ _ _ hSw.ra
    refine wp_region_held_drew (S := fun W => S2 w (.cells #[.int .i64 g.kind, .int .i64 g.n, .slice ag g.kids.length cg] 24 (0, 0)) A f af fc W) (by kernel_rfl) (by exact hS.below (below_drewN (Below.refl _ _) 1)) (fun hHeld => ?_)
    have hS0 := hHeld
    generalize hV : wq.drew = V0 at *
    clear hV
    refine tk (v := ?_) 0 o22_16_0 (by rfl) ?_ ?_
    case refine_2 => unfold o22_16_0; intro w hSw; have p0 := HCE.out _ hSw; go_simp; (try with_reducible rfl)
    simp only [o22_16_0, Act.put, List.setIfInBounds_toArray, List.set_cons_zero, List.set_cons_succ]
    refine tk (v := ?_) 1 o22_16_1 (by rfl) ?_ ?_
    case refine_2 => unfold o22_16_1; intro w hSw; have p0 := HCE.out _ hSw; go_simp; (try with_reducible rfl)
    simp only [o22_16_1, Act.put, List.setIfInBounds_toArray, List.set_cons_zero, List.set_cons_succ]
    refine tk (v := ?_) 2 o22_16_2 (by rfl) ?_ ?_
    case refine_2 => unfold o22_16_2; intro w hSw; have p0 := HCE.out _ hSw; go_simp; (try with_reducible rfl)
    simp only [o22_16_2, Act.put, List.setIfInBounds_toArray, List.set_cons_zero, List.set_cons_succ]
    refine tk (v := ?_) 3 o22_16_3 (by rfl) ?_ ?_
    case refine_2 => unfold o22_16_3; intro w hSw; have p0 := HCE.out _ hSw; go_simp; (try with_reducible rfl)
    simp only [o22_16_3, Act.put, List.setIfInBounds_toArray, List.set_cons_zero, List.set_cons_succ]
    refine tks 4 o22_16_4 (by rfl) ?_
    simp only [o22_16_4, Act.put, List.setIfInBounds_toArray, List.set_cons_zero, List.set_cons_succ]
    refine tks 5 o22_16_5 (by rfl) ?_
    simp only [o22_16_5, Act.put, List.setIfInBounds_toArray, List.set_cons_zero, List.set_cons_succ]
    refine tks 6 o22_16_6 (by rfl) ?_
    simp only [o22_16_6, Act.put, List.setIfInBounds_toArray, List.set_cons_zero, List.set_cons_succ]
    refine tk (v := ?_) 7 o22_16_7 (by rfl) ?_ ?_
    case refine_2 => unfold o22_16_7; intro w hSw; have p0 := HCE.out _ hSw; go_simp; (try with_reducible rfl)
    simp only [o22_16_7, Act.put, List.setIfInBounds_toArray, List.set_cons_zero, List.set_cons_succ]
    refine tk (v := ?_) 8 o22_16_8 (by rfl) ?_ ?_
    case refine_2 => unfold o22_16_8; intro w hSw; have p0 := HCE.out _ hSw; go_simp; (try with_reducible rfl)
    simp only [o22_16_8, Act.put, List.setIfInBounds_toArray, List.set_cons_zero, List.set_cons_succ]
    refine tks 9 o22_16_9 (by rfl) ?_
    simp only [o22_16_9, Act.put, List.setIfInBounds_toArray, List.set_cons_zero, List.set_cons_succ]
    refine tks 10 o22_16_10 (by rfl) ?_
    simp only [o22_16_10, Act.put, List.setIfInBounds_toArray, List.set_cons_zero, List.set_cons_succ]
    refine tks 11 o22_16_11 (by rfl) ?_
    simp only [o22_16_11, Act.put, List.setIfInBounds_toArray, List.set_cons_zero, List.set_cons_succ]
    refine tks 12 o22_16_12 (by rfl) ?_
    simp only [o22_16_12, Act.put, List.setIfInBounds_toArray, List.set_cons_zero, List.set_cons_succ]
    refine tks 13 o22_16_13 (by rfl) ?_
    simp only [o22_16_13, Act.put, List.setIfInBounds_toArray, List.set_cons_zero, List.set_cons_succ]
    refine tks 14 o22_16_14 (by rfl) ?_
    simp only [o22_16_14, Act.put, List.setIfInBounds_toArray, List.set_cons_zero, List.set_cons_succ]
    refine tks 15 o22_16_15 (by rfl) ?_
    simp only [o22_16_15, Act.put, List.setIfInBounds_toArray, List.set_cons_zero, List.set_cons_succ]
    refine tks 16 o22_16_16 (by rfl) ?_
    simp only [o22_16_16, Act.put, List.setIfInBounds_toArray, List.set_cons_zero, List.set_cons_succ]
    refine tks 17 o22_16_17 (by rfl) ?_
    simp only [o22_16_17, Act.put, List.setIfInBounds_toArray, List.set_cons_zero, List.set_cons_succ]
    refine tk (v := ?_) 18 o22_16_18 (by rfl) ?_ ?_
    case refine_2 => unfold o22_16_18; intro w hSw; have p0 := HCE.out _ hSw; go_simp; (try with_reducible rfl)
    simp only [o22_16_18, Act.put, List.setIfInBounds_toArray, List.set_cons_zero, List.set_cons_succ]
    refine tk (v := ?_) 19 o22_16_19 (by rfl) ?_ ?_
    case refine_2 => unfold o22_16_19; intro w hSw; have p0 := HCE.out _ hSw; go_simp; (try with_reducible rfl)
    simp only [o22_16_19, Act.put, List.setIfInBounds_toArray, List.set_cons_zero, List.set_cons_succ]
    refine tks 20 o22_16_20 (by rfl) ?_
    simp only [o22_16_20, Act.put, List.setIfInBounds_toArray, List.set_cons_zero, List.set_cons_succ]
    refine tks 21 o22_16_21 (by rfl) ?_
    simp only [o22_16_21, Act.put, List.setIfInBounds_toArray, List.set_cons_zero, List.set_cons_succ]
    refine tks 22 o22_16_22 (by rfl) ?_
    simp only [o22_16_22, Act.put, List.setIfInBounds_toArray, List.set_cons_zero, List.set_cons_succ]
    refine tks 23 o22_16_23 (by rfl) ?_
    simp only [o22_16_23, Act.put, List.setIfInBounds_toArray, List.set_cons_zero, List.set_cons_succ]
    refine tks 24 o22_16_24 (by rfl) ?_
    simp only [o22_16_24, Act.put, List.setIfInBounds_toArray, List.set_cons_zero, List.set_cons_succ]
    refine tks 25 o22_16_25 (by rfl) ?_
    simp only [o22_16_25, Act.put, List.setIfInBounds_toArray, List.set_cons_zero, List.set_cons_succ]
    refine tks 26 o22_16_26 (by rfl) ?_
    simp only [o22_16_26, Act.put, List.setIfInBounds_toArray, List.set_cons_zero, List.set_cons_succ]
    refine tks 27 o22_16_27 (by rfl) ?_
    simp only [o22_16_27, Act.put, List.setIfInBounds_toArray, List.set_cons_zero, List.set_cons_succ]
    refine tks 28 o22_16_28 (by rfl) ?_
    simp only [o22_16_28, Act.put, List.setIfInBounds_toArray, List.set_cons_zero, List.set_cons_succ]
    refine tks 29 o22_16_29 (by rfl) ?_
    simp only [o22_16_29, Act.put, List.setIfInBounds_toArray, List.set_cons_zero, List.set_cons_succ]
    refine tks 30 o22_16_30 (by rfl) ?_
    simp only [o22_16_30, Act.put, List.setIfInBounds_toArray, List.set_cons_zero, List.set_cons_succ]
    refine tks 31 o22_16_31 (by rfl) ?_
    simp only [o22_16_31, Act.put, List.setIfInBounds_toArray, List.set_cons_zero, List.set_cons_succ]
    refine tks 32 o22_16_32 (by rfl) ?_
    simp only [o22_16_32, Act.put, List.setIfInBounds_toArray, List.set_cons_zero, List.set_cons_succ]
    refine tks 33 o22_16_33 (by rfl) ?_
    simp only [o22_16_33, Act.put, List.setIfInBounds_toArray, List.set_cons_zero, List.set_cons_succ]
    refine tk (v := ?_) 34 o22_16_34 (by rfl) ?_ ?_
    case refine_2 => unfold o22_16_34; intro w hSw; have p0 := HCE.out _ hSw; go_simp; (try with_reducible rfl)
    simp only [o22_16_34, Act.put, List.setIfInBounds_toArray, List.set_cons_zero, List.set_cons_succ]
    refine wpAnyH_done (by kernel_rfl) ?_ _
    exact NoPanic.normal (hQ _ _ _ _ _ _ _ _ _ _ _ _ _ _ _ _ _ _ _ _ _ _ _ _ _ _ _ _ _ _ _ _ _ _ _ hS0)
  have hfb : (f.kind == 3) = true := by simpa using hfk
  obtain ⟨y, x, hfo⟩ : ∃ x y, f = un x y := by
    rcases gp_cases HGFF.out with ⟨_, h, _⟩ | ⟨x, y, h, _⟩ | ⟨x, y, h, _⟩
    · rw [h] at hfk; simp [bs] at hfk
    · first | exact ⟨x, y, h⟩ | (rw [h] at hfk; simp [ov] at hfk)
    · first | exact ⟨x, y, h⟩ | (rw [h] at hfk; simp [un] at hfk)
  by_cases hik : k < i
  rotate_left
  · have hrf : rq = false := bool_false HRQ.out (fun ⟨hi, _, _, _, h, _⟩ => hik h)
    have hik1 : ¬ (k : Int) < (i : Int) := by omega
    subst hrf
    have HCE : Hid _ := fun (W : World) (hSw : S2 w (.cells #[.int .i64 g.kind, .int .i64 g.n, .slice ag g.kids.length cg] 24 (0, 0)) A f af fc W) => cell_of_row _ _ 0 _ _ _ hSw.ra
    refine wp_region_held_drew (S := fun W => S2 w (.cells #[.int .i64 g.kind, .int .i64 g.n, .slice ag g.kids.length cg] 24 (0, 0)) A f af fc W) (by kernel_rfl) (by exact hS.below (below_drewN (Below.refl _ _) 1)) (fun hHeld => ?_)
    have hS0 := hHeld
    generalize hV : wq.drew = V0 at *
    clear hV
    refine tk (v := ?_) 0 o22_16_0 (by rfl) ?_ ?_
    case refine_2 => unfold o22_16_0; intro w hSw; have p0 := HCE.out _ hSw; go_simp; (try with_reducible rfl)
    simp only [o22_16_0, Act.put, List.setIfInBounds_toArray, List.set_cons_zero, List.set_cons_succ]
    refine tk (v := ?_) 1 o22_16_1 (by rfl) ?_ ?_
    case refine_2 => unfold o22_16_1; intro w hSw; have p0 := HCE.out _ hSw; go_simp; (try with_reducible rfl)
    simp only [o22_16_1, Act.put, List.setIfInBounds_toArray, List.set_cons_zero, List.set_cons_succ]
    refine tk (v := ?_) 2 o22_16_2 (by rfl) ?_ ?_
    case refine_2 => unfold o22_16_2; intro w hSw; have p0 := HCE.out _ hSw; go_simp; (try with_reducible rfl)
    simp only [o22_16_2, Act.put, List.setIfInBounds_toArray, List.set_cons_zero, List.set_cons_succ]
    refine tk (v := ?_) 3 o22_16_3 (by rfl) ?_ ?_
    case refine_2 => unfold o22_16_3; intro w hSw; have p0 := HCE.out _ hSw; go_simp; (try with_reducible rfl)
    simp only [o22_16_3, Act.put, List.setIfInBounds_toArray, List.set_cons_zero, List.set_cons_succ]
    refine tk (v := ?_) 4 o22_16_4 (by rfl) ?_ ?_
    case refine_2 => unfold o22_16_4; intro w hSw; have p0 := HCE.out _ hSw; go_simp; (try with_reducible rfl)
    simp only [o22_16_4, Act.put, List.setIfInBounds_toArray, List.set_cons_zero, List.set_cons_succ]
    refine tk (v := ?_) 5 o22_16_5 (by rfl) ?_ ?_
    case refine_2 => unfold o22_16_5; intro w hSw; have p0 := HCE.out _ hSw; go_simp; (try with_reducible rfl)
    simp only [o22_16_5, Act.put, List.setIfInBounds_toArray, List.set_cons_zero, List.set_cons_succ]
    refine tk (v := ?_) 6 o22_16_6 (by rfl) ?_ ?_
    case refine_2 => unfold o22_16_6; intro w hSw; have p0 := HCE.out _ hSw; go_simp; (try with_reducible rfl)
    simp only [o22_16_6, Act.put, List.setIfInBounds_toArray, List.set_cons_zero, List.set_cons_succ]
    refine tk (v := ?_) 7 o22_16_7 (by rfl) ?_ ?_
    case refine_2 => unfold o22_16_7; intro w hSw; have p0 := HCE.out _ hSw; go_simp; (try with_reducible rfl)
    simp only [o22_16_7, Act.put, List.setIfInBounds_toArray, List.set_cons_zero, List.set_cons_succ]
    refine tk (v := ?_) 8 o22_16_8 (by rfl) ?_ ?_
    case refine_2 => unfold o22_16_8; intro w hSw; have p0 := HCE.out _ hSw; go_simp; (try with_reducible rfl)
    simp only [o22_16_8, Act.put, List.setIfInBounds_toArray, List.set_cons_zero, List.set_cons_succ]
    refine tks 9 o22_16_9 (by rfl) ?_
    simp only [o22_16_9, Act.put, List.setIfInBounds_toArray, List.set_cons_zero, List.set_cons_succ]
    refine tks 10 o22_16_10 (by rfl) ?_
    simp only [o22_16_10, Act.put, List.setIfInBounds_toArray, List.set_cons_zero, List.set_cons_succ]
    refine tks 11 o22_16_11 (by rfl) ?_
    simp only [o22_16_11, Act.put, List.setIfInBounds_toArray, List.set_cons_zero, List.set_cons_succ]
    refine tks 12 o22_16_12 (by rfl) ?_
    simp only [o22_16_12, Act.put, List.setIfInBounds_toArray, List.set_cons_zero, List.set_cons_succ]
    refine tks 13 o22_16_13 (by rfl) ?_
    simp only [o22_16_13, Act.put, List.setIfInBounds_toArray, List.set_cons_zero, List.set_cons_succ]
    refine tks 14 o22_16_14 (by rfl) ?_
    simp only [o22_16_14, Act.put, List.setIfInBounds_toArray, List.set_cons_zero, List.set_cons_succ]
    refine tks 15 o22_16_15 (by rfl) ?_
    simp only [o22_16_15, Act.put, List.setIfInBounds_toArray, List.set_cons_zero, List.set_cons_succ]
    refine tks 16 o22_16_16 (by rfl) ?_
    simp only [o22_16_16, Act.put, List.setIfInBounds_toArray, List.set_cons_zero, List.set_cons_succ]
    refine tks 17 o22_16_17 (by rfl) ?_
    simp only [o22_16_17, Act.put, List.setIfInBounds_toArray, List.set_cons_zero, List.set_cons_succ]
    refine tk (v := ?_) 18 o22_16_18 (by rfl) ?_ ?_
    case refine_2 => unfold o22_16_18; intro w hSw; have p0 := HCE.out _ hSw; go_simp; (try with_reducible rfl)
    simp only [o22_16_18, Act.put, List.setIfInBounds_toArray, List.set_cons_zero, List.set_cons_succ]
    refine tk (v := ?_) 19 o22_16_19 (by rfl) ?_ ?_
    case refine_2 => unfold o22_16_19; intro w hSw; have p0 := HCE.out _ hSw; go_simp; (try with_reducible rfl)
    simp only [o22_16_19, Act.put, List.setIfInBounds_toArray, List.set_cons_zero, List.set_cons_succ]
    refine tks 20 o22_16_20 (by rfl) ?_
    simp only [o22_16_20, Act.put, List.setIfInBounds_toArray, List.set_cons_zero, List.set_cons_succ]
    refine tks 21 o22_16_21 (by rfl) ?_
    simp only [o22_16_21, Act.put, List.setIfInBounds_toArray, List.set_cons_zero, List.set_cons_succ]
    refine tks 22 o22_16_22 (by rfl) ?_
    simp only [o22_16_22, Act.put, List.setIfInBounds_toArray, List.set_cons_zero, List.set_cons_succ]
    refine tks 23 o22_16_23 (by rfl) ?_
    simp only [o22_16_23, Act.put, List.setIfInBounds_toArray, List.set_cons_zero, List.set_cons_succ]
    refine tks 24 o22_16_24 (by rfl) ?_
    simp only [o22_16_24, Act.put, List.setIfInBounds_toArray, List.set_cons_zero, List.set_cons_succ]
    refine tks 25 o22_16_25 (by rfl) ?_
    simp only [o22_16_25, Act.put, List.setIfInBounds_toArray, List.set_cons_zero, List.set_cons_succ]
    refine tks 26 o22_16_26 (by rfl) ?_
    simp only [o22_16_26, Act.put, List.setIfInBounds_toArray, List.set_cons_zero, List.set_cons_succ]
    refine tks 27 o22_16_27 (by rfl) ?_
    simp only [o22_16_27, Act.put, List.setIfInBounds_toArray, List.set_cons_zero, List.set_cons_succ]
    refine tks 28 o22_16_28 (by rfl) ?_
    simp only [o22_16_28, Act.put, List.setIfInBounds_toArray, List.set_cons_zero, List.set_cons_succ]
    refine tks 29 o22_16_29 (by rfl) ?_
    simp only [o22_16_29, Act.put, List.setIfInBounds_toArray, List.set_cons_zero, List.set_cons_succ]
    refine tks 30 o22_16_30 (by rfl) ?_
    simp only [o22_16_30, Act.put, List.setIfInBounds_toArray, List.set_cons_zero, List.set_cons_succ]
    refine tks 31 o22_16_31 (by rfl) ?_
    simp only [o22_16_31, Act.put, List.setIfInBounds_toArray, List.set_cons_zero, List.set_cons_succ]
    refine tks 32 o22_16_32 (by rfl) ?_
    simp only [o22_16_32, Act.put, List.setIfInBounds_toArray, List.set_cons_zero, List.set_cons_succ]
    refine tks 33 o22_16_33 (by rfl) ?_
    simp only [o22_16_33, Act.put, List.setIfInBounds_toArray, List.set_cons_zero, List.set_cons_succ]
    refine tk (v := ?_) 34 o22_16_34 (by rfl) ?_ ?_
    case refine_2 => unfold o22_16_34; intro w hSw; have p0 := HCE.out _ hSw; go_simp; (try with_reducible rfl)
    simp only [o22_16_34, Act.put, List.setIfInBounds_toArray, List.set_cons_zero, List.set_cons_succ]
    refine wpAnyH_done (by kernel_rfl) ?_ _
    exact NoPanic.normal (hQ _ _ _ _ _ _ _ _ _ _ _ _ _ _ _ _ _ _ _ _ _ _ _ _ _ _ _ _ _ _ _ _ _ _ _ hS0)
  have hik1 : (k : Int) < (i : Int) := by omega
  have hik2 : (k : Int) ≤ (i : Int) := by omega
  have hci : ¬ c = k := by omega
  have hT2 : TyQ w d (un y x) af fc := hfo ▸ HT.out
  have hfl0 : 0 < f.kids.length := by rw [hfo]; simp [un]
  have hfl1 : 1 < f.kids.length := by rw [hfo]; simp [un]
  have hfm : f.kids.length - 1 = 1 := by rw [hfo]; simp [un]
  have hfl0' : (0 : Int) < (f.kids.length : Int) := by omega
  have hfl1' : (1 : Int) < (f.kids.length : Int) := by omega
  have hfl1'' : (1 : Int) ≤ (f.kids.length : Int) := by omega
  have hfc2 : 2 ≤ fc := by obtain ⟨d', rfl⟩ := hT2.pos; have := hT2.1; simpa [un] using this
  have hfc : (1 : Int) ≤ (fc : Int) := by omega
  have hfcn : ¬ fc = 1 := by omega
  obtain ⟨d', rfl⟩ := hT2.pos
  obtain ⟨fg, fo, ay, cy, rfl, hfg, y0, y1, y2, hx0⟩ := hT2.kid (j := 0) (by simp [un])
  obtain ⟨fg2, fo2, ax, cx, ef, hfg2, y3, y4, y5, hx1⟩ := hT2.kid (j := 1) (by simp [un])
  simp only [Option.some.injEq, Addr.mk.injEq, and_true] at ef
  obtain ⟨rfl, rfl⟩ := ef
  have HKT0 := hT2.ls
  simp only [un, List.getElem_cons_zero, List.getElem_cons_succ, Nat.zero_mul, Nat.add_zero, Nat.one_mul] at y0 y1 y2 y3 y4 y5 hx0 hx1 HKT0
  have HY : Hid (TyQ w d' y ay cy) := hx0
  have HKT : Hid (LsQ w d' [x] (some ⟨fg, fo + 3, none⟩) (fc - 1)) := by show LsQ w _ [x] _ _; have := LsQ.drop HKT0 1; simpa using this
  obtain ⟨D, hD⟩ : ∃ D, (l.drop k).take (i - k) = D := ⟨_, rfl⟩
  obtain ⟨G, hG_⟩ : ∃ G, l.take k = G := ⟨_, rfl⟩
  obtain ⟨H, hH_⟩ : ∃ H, l.drop (i + 1) = H := ⟨_, rfl⟩
  obtain ⟨fl, hfl⟩ : ∃ fl, G ++ [x] ++ H = fl := ⟨_, rfl⟩
  have HJN : Hid (G ++ [x] ++ H = fl) := hfl
  have hless := less_u (g := g) hil (HF.out.trans hfo) hik
  have hgps := gp_u (k := k) HGL.out hil (HF.out.trans hfo)
  rw [hD, hG_, hH_, hfl] at hless
  have HSZ2 := HSZ.out
  have HLD : Hid (szs D + sz y < M) := by show szs D + sz y < M; omega
  have HLE : Hid (szs fl + sz g < M) := by show szs fl + sz g < M; omega
  have HFL : Hid (fl.length ≤ 1000) := by have := szs_len fl; have := HM.out; show fl.length ≤ 1000; omega
  have HGY : Hid (Gp y) := hgps.2.1
  have HGD : Hid (∀ t ∈ D, Gp t) := by rw [← hD]; exact hgps.2.2.1 _
  have HGF : Hid (∀ t ∈ fl, Gp t) := by rw [← hfl, ← hG_, ← hH_]; exact hgps.2.2.2
  have HNE : Hid (fl ≠ []) := by show fl ≠ []; rw [← hfl]; simp
  have HDL : Hid (D.length = i - k) := by show D.length = i - k; rw [← hD, List.length_take, List.length_drop]; have := HI1.out; omega
  have HDN : Hid (D ≠ []) := fun e => by have := HDL.out; rw [e] at this; simp at this; omega
  have HGN : Hid (G.length = k) := by show G.length = k; rw [← hG_, List.length_take]; omega
  have HHN : Hid (H.length = (l.length - i1)) := by show H.length = (l.length - i1); rw [← hH_, List.length_drop]; (try (have := HI1.out; omega))
  have HD : Hid (LsQ w (d' + 1) D (some ⟨lg, lo + k * 3, none⟩) (c - k)) := by show LsQ w (d' + 1) D (some ⟨lg, lo + k * 3, none⟩) (c - k); rw [← hD]; exact (HL.out.drop _).take _
  have HGT : Hid (LsQ w (d' + 1) G (some ⟨lg, lo, none⟩) c) := by show LsQ w (d' + 1) G (some ⟨lg, lo, none⟩) c; rw [← hG_]; exact HL.out.take _
  have HHT : Hid (LsQ w (d' + 1) H (if c = i1 then (some ⟨lg, lo, none⟩ : Option Addr) else some ⟨lg, lo + i1 * 3, none⟩) (c - i1)) := by show LsQ w (d' + 1) H (if c = i1 then (some ⟨lg, lo, none⟩ : Option Addr) else some ⟨lg, lo + i1 * 3, none⟩) (c - i1); rw [← hH_]; rw [HI1.out]; exact HL.out.tail _ (by omega)
  obtain ⟨rD, hrD⟩ := fix_bool (E D y)
  obtain ⟨rE, hrE⟩ := fix_bool (E fl g)
  have hrr : rq = (rD && rE) := by
    have h1 : rq = true ↔ (rD = true ∧ rE = true) := by
      rw [HRQ.out, hrD, hrE]
      constructor
      · rintro ⟨hi, y', x', e, _, q1, q2⟩
        rw [(HF.out.trans hfo)] at e
        obtain ⟨rfl, rfl⟩ := un_inj e
        rw [hD] at q1
        rw [hG_, hH_, hfl] at q2
        exact ⟨q1, q2⟩
      · rintro ⟨q1, q2⟩
        rw [← hD] at q1
        rw [← hfl, ← hG_, ← hH_] at q2
        exact ⟨hil, y, x, HF.out.trans hfo, hik, q1, q2⟩
    revert h1
    cases rq <;> cases rD <;> cases rE <;> simp
  have HRD : Hid (rD = true ↔ E D y) := hrD
  have HRE : Hid (rE = true ↔ E fl g) := hrE
  clear hrD hrE hless hgps HSZ2 hD hG_ hH_ hfl hx0 hx1 HKT0 hfg2 hT2 hfo hfk
  subst hrr
  cases rD with
  | false =>
    have HCE : Hid _ := fun (W : World) (hSw : S2 w (.cells #[.int .i64 g.kind, .int .i64 g.n, .slice ag g.kids.length cg] 24 (0, 0)) A f (some ⟨fg, fo, none⟩) fc W) => (And.intro (cell_of_row _ _ 0 _ _ _ hSw.ra) (And.intro (cell_of_row _ _ 2 _ _ _ hSw.ra) (And.intro (cell_of_row _ _ 0 _ _ _ hSw.box) (And.intro (cell_of_row _ _ 1 _ _ _ hSw.box) (And.intro (cell_of_row _ _ 2 _ _ _ hSw.box) (And.intro ((hSw.bel.cell (p := ⟨fg, _, none⟩) hfg).trans y0) (And.intro ((hSw.bel.cell (p := ⟨fg, _, none⟩) hfg).trans y1) (And.intro ((hSw.bel.cell (p := ⟨fg, _, none⟩) hfg).trans y2) (And.intro ((hSw.bel.cell (p := ⟨fg, _, none⟩) hfg).trans y3) (And.intro ((hSw.bel.cell (p := ⟨fg, _, none⟩) hfg).trans y4) ((hSw.bel.cell (p := ⟨fg, _, none⟩) hfg).trans y5)))))))))))
    refine wp_region_held_drew (S := fun W => S2 w (.cells #[.int .i64 g.kind, .int .i64 g.n, .slice ag g.kids.length cg] 24 (0, 0)) A f (some ⟨fg, fo, none⟩) fc W) (by kernel_rfl) (by exact hS.below (below_drewN (Below.refl _ _) 1)) (fun hHeld => ?_)
    have hS0 := hHeld
    generalize hV : wq.drew = V0 at *
    clear hV
    refine tk (v := ?_) 0 o22_16_0 (by rfl) ?_ ?_
    case refine_2 => unfold o22_16_0; intro w hSw; obtain ⟨p0, p2, b0, b1, b2, q0, q1, q2, q3, q4, q5⟩ := HCE.out _ hSw; go_simp; (try with_reducible rfl)
    simp only [o22_16_0, Act.put, List.setIfInBounds_toArray, List.set_cons_zero, List.set_cons_succ]
    refine tk (v := ?_) 1 o22_16_1 (by rfl) ?_ ?_
    case refine_2 => unfold o22_16_1; intro w hSw; obtain ⟨p0, p2, b0, b1, b2, q0, q1, q2, q3, q4, q5⟩ := HCE.out _ hSw; go_simp; (try with_reducible rfl)
    simp only [o22_16_1, Act.put, List.setIfInBounds_toArray, List.set_cons_zero, List.set_cons_succ]
    refine tk (v := ?_) 2 o22_16_2 (by rfl) ?_ ?_
    case refine_2 => unfold o22_16_2; intro w hSw; obtain ⟨p0, p2, b0, b1, b2, q0, q1, q2, q3, q4, q5⟩ := HCE.out _ hSw; go_simp; (try with_reducible rfl)
    simp only [o22_16_2, Act.put, List.setIfInBounds_toArray, List.set_cons_zero, List.set_cons_succ]
    refine tk (v := ?_) 3 o22_16_3 (by rfl) ?_ ?_
    case refine_2 => unfold o22_16_3; intro w hSw; obtain ⟨p0, p2, b0, b1, b2, q0, q1, q2, q3, q4, q5⟩ := HCE.out _ hSw; go_simp; (try with_reducible rfl)
    simp only [o22_16_3, Act.put, List.setIfInBounds_toArray, List.set_cons_zero, List.set_cons_succ]
    refine tk (v := ?_) 4 o22_16_4 (by rfl) ?_ ?_
    case refine_2 => unfold o22_16_4; intro w hSw; obtain ⟨p0, p2, b0, b1, b2, q0, q1, q2, q3, q4, q5⟩ := HCE.out _ hSw; go_simp; (try with_reducible rfl)
    simp only [o22_16_4, Act.put, List.setIfInBounds_toArray, List.set_cons_zero, List.set_cons_succ]
    refine tk (v := ?_) 5 o22_16_5 (by rfl) ?_ ?_
    case refine_2 => unfold o22_16_5; intro w hSw; obtain ⟨p0, p2, b0, b1, b2, q0, q1, q2, q3, q4, q5⟩ := HCE.out _ hSw; go_simp; (try with_reducible rfl)
    simp only [o22_16_5, Act.put, List.setIfInBounds_toArray, List.set_cons_zero, List.set_cons_succ]
    refine tk (v := ?_) 6 o22_16_6 (by rfl) ?_ ?_
    case refine_2 => unfold o22_16_6; intro w hSw; obtain ⟨p0, p2, b0, b1, b2, q0, q1, q2, q3, q4, q5⟩ := HCE.out _ hSw; go_simp; (try with_reducible rfl)
    simp only [o22_16_6, Act.put, List.setIfInBounds_toArray, List.set_cons_zero, List.set_cons_succ]
    refine tk (v := ?_) 7 o22_16_7 (by rfl) ?_ ?_
    case refine_2 => unfold o22_16_7; intro w hSw; obtain ⟨p0, p2, b0, b1, b2, q0, q1, q2, q3, q4, q5⟩ := HCE.out _ hSw; go_simp; (try with_reducible rfl)
    simp only [o22_16_7, Act.put, List.setIfInBounds_toArray, List.set_cons_zero, List.set_cons_succ]
    refine tk (v := ?_) 8 o22_16_8 (by rfl) ?_ ?_
    case refine_2 => unfold o22_16_8; intro w hSw; obtain ⟨p0, p2, b0, b1, b2, q0, q1, q2, q3, q4, q5⟩ := HCE.out _ hSw; go_simp; (try with_reducible rfl)
    simp only [o22_16_8, Act.put, List.setIfInBounds_toArray, List.set_cons_zero, List.set_cons_succ]
    refine tk (v := ?_) 9 o22_16_9 (by rfl) ?_ ?_
    case refine_2 => unfold o22_16_9; intro w hSw; obtain ⟨p0, p2, b0, b1, b2, q0, q1, q2, q3, q4, q5⟩ := HCE.out _ hSw; go_simp; (try with_reducible rfl)
    simp only [o22_16_9, Act.put, List.setIfInBounds_toArray, List.set_cons_zero, List.set_cons_succ]
    refine tk (v := ?_) 10 o22_16_10 (by rfl) ?_ ?_
    case refine_2 => unfold o22_16_10; intro w hSw; obtain ⟨p0, p2, b0, b1, b2, q0, q1, q2, q3, q4, q5⟩ := HCE.out _ hSw; go_simp; (try with_reducible rfl)
    simp only [o22_16_10, Act.put, List.setIfInBounds_toArray, List.set_cons_zero, List.set_cons_succ]
    refine tk (v := ?_) 11 o22_16_11 (by rfl) ?_ ?_
    case refine_2 => unfold o22_16_11; intro w hSw; obtain ⟨p0, p2, b0, b1, b2, q0, q1, q2, q3, q4, q5⟩ := HCE.out _ hSw; go_simp; (try with_reducible rfl)
    simp only [o22_16_11, Act.put, List.setIfInBounds_toArray, List.set_cons_zero, List.set_cons_succ]
    refine tk (v := ?_) 12 o22_16_12 (by rfl) ?_ ?_
    case refine_2 => unfold o22_16_12; intro w hSw; obtain ⟨p0, p2, b0, b1, b2, q0, q1, q2, q3, q4, q5⟩ := HCE.out _ hSw; go_simp; (try with_reducible rfl)
    simp only [o22_16_12, Act.put, List.setIfInBounds_toArray, List.set_cons_zero, List.set_cons_succ]
    refine tk (v := ?_) 13 o22_16_13 (by rfl) ?_ ?_
    case refine_2 => unfold o22_16_13; intro w hSw; obtain ⟨p0, p2, b0, b1, b2, q0, q1, q2, q3, q4, q5⟩ := HCE.out _ hSw; go_simp; (try with_reducible rfl)
    simp only [o22_16_13, Act.put, List.setIfInBounds_toArray, List.set_cons_zero, List.set_cons_succ]
    refine tk (v := ?_) 14 o22_16_14 (by rfl) ?_ ?_
    case refine_2 => unfold o22_16_14; intro w hSw; obtain ⟨p0, p2, b0, b1, b2, q0, q1, q2, q3, q4, q5⟩ := HCE.out _ hSw; go_simp; (try with_reducible rfl)
    simp only [o22_16_14, Act.put, List.setIfInBounds_toArray, List.set_cons_zero, List.set_cons_succ]
    refine tk (v := ?_) 15 o22_16_15 (by rfl) ?_ ?_
    case refine_2 => unfold o22_16_15; intro w hSw; obtain ⟨p0, p2, b0, b1, b2, q0, q1, q2, q3, q4, q5⟩ := HCE.out _ hSw; go_simp; (try with_reducible rfl)
    simp only [o22_16_15, Act.put, List.setIfInBounds_toArray, List.set_cons_zero, List.set_cons_succ]
    refine tk (v := ?_) 16 o22_16_16 (by rfl) ?_ ?_
    case refine_2 => unfold o22_16_16; intro w hSw; obtain ⟨p0, p2, b0, b1, b2, q0, q1, q2, q3, q4, q5⟩ := HCE.out _ hSw; go_simp; (try with_reducible rfl)
    simp only [o22_16_16, Act.put, List.setIfInBounds_toArray, List.set_cons_zero, List.set_cons_succ]
    refine wpAnyH_ready (rs := [17]) (by kernel_rfl) (by simp) ?_
    refine (AllReadyH.cons (o := o22_16_17) rfl (fun K hK => ?_) AllReadyH.nil)
    unfold o22_16_17
    go_simp
    have KQ := IH.out _ HLD.out _ _ D (some ⟨lg, lo + k * 3, none⟩) (c - k) y ay cy V0 false (Nat.le_refl _) (HD.out.below hS0.bel) (HY.out.below hS0.bel) HGD.out HGY.out HDN.out HRD.out
    rw [HDL.out] at KQ
    unfold vty at KQ
    (with_reducible refine KQ.mono ?_)
    clear KQ
    rintro e1 V1 ⟨rfl, hb1⟩
    dsimp only
    have hS1 := hS0.below hb1
    refine hK.out _ _ ?_ (fun hHeld => ?_)
    · exact hS1
    clear hK K
    try simp only [Act.put, List.setIfInBounds_toArray, List.set_cons_zero, List.set_cons_succ]
    refine tk (v := ?_) 18 o22_16_18 (by rfl) ?_ ?_
    case refine_2 => unfold o22_16_18; intro w hSw; obtain ⟨p0, p2, b0, b1, b2, q0, q1, q2, q3, q4, q5⟩ := HCE.out _ hSw; go_simp; (try with_reducible rfl)
    simp only [o22_16_18, Act.put, List.setIfInBounds_toArray, List.set_cons_zero, List.set_cons_succ]
    refine tk (v := ?_) 19 o22_16_19 (by rfl) ?_ ?_
    case refine_2 => unfold o22_16_19; intro w hSw; obtain ⟨p0, p2, b0, b1, b2, q0, q1, q2, q3, q4, q5⟩ := HCE.out _ hSw; go_simp; (try with_reducible rfl)
    simp only [o22_16_19, Act.put, List.setIfInBounds_toArray, List.set_cons_zero, List.set_cons_succ]
    refine tks 20 o22_16_20 (by rfl) ?_
    simp only [o22_16_20, Act.put, List.setIfInBounds_toArray, List.set_cons_zero, List.set_cons_succ]
    refine tks 21 o22_16_21 (by rfl) ?_
    simp only [o22_16_21, Act.put, List.setIfInBounds_toArray, List.set_cons_zero, List.set_cons_succ]
    refine tks 22 o22_16_22 (by rfl) ?_
    simp only [o22_16_22, Act.put, List.setIfInBounds_toArray, List.set_cons_zero, List.set_cons_succ]
    refine tks 23 o22_16_23 (by rfl) ?_
    simp only [o22_16_23, Act.put, List.setIfInBounds_toArray, List.set_cons_zero, List.set_cons_succ]
    refine tks 24 o22_16_24 (by rfl) ?_
    simp only [o22_16_24, Act.put, List.setIfInBounds_toArray, List.set_cons_zero, List.set_cons_succ]
    refine tks 25 o22_16_25 (by rfl) ?_
    simp only [o22_16_25, Act.put, List.setIfInBounds_toArray, List.set_cons_zero, List.set_cons_succ]
    refine tks 26 o22_16_26 (by rfl) ?_
    simp only [o22_16_26, Act.put, List.setIfInBounds_toArray, List.set_cons_zero, List.set_cons_succ]
    refine tks 27 o22_16_27 (by rfl) ?_
    simp only [o22_16_27, Act.put, List.setIfInBounds_toArray, List.set_cons_zero, List.set_cons_succ]
    refine tks 28 o22_16_28 (by rfl) ?_
    simp only [o22_16_28, Act.put, List.setIfInBounds_toArray, List.set_cons_zero, List.set_cons_succ]
    refine tks 29 o22_16_29 (by rfl) ?_
    simp only [o22_16_29, Act.put, List.setIfInBounds_toArray, List.set_cons_zero, List.set_cons_succ]
    refine tks 30 o22_16_30 (by rfl) ?_
    simp only [o22_16_30, Act.put, List.setIfInBounds_toArray, List.set_cons_zero, List.set_cons_succ]
    refine tks 31 o22_16_31 (by rfl) ?_
    simp only [o22_16_31, Act.put, List.setIfInBounds_toArray, List.set_cons_zero, List.set_cons_succ]
    refine tks 32 o22_16_32 (by rfl) ?_
    simp only [o22_16_32, Act.put, List.setIfInBounds_toArray, List.set_cons_zero, List.set_cons_succ]
    refine tks 33 o22_16_33 (by rfl) ?_
    simp only [o22_16_33, Act.put, List.setIfInBounds_toArray, List.set_cons_zero, List.set_cons_succ]
    refine tk (v := ?_) 34 o22_16_34 (by rfl) ?_ ?_
    case refine_2 => unfold o22_16_34; intro w hSw; obtain ⟨p0, p2, b0, b1, b2, q0, q1, q2, q3, q4, q5⟩ := HCE.out _ hSw; go_simp; (try with_reducible rfl)
    simp only [o22_16_34, Act.put, List.setIfInBounds_toArray, List.set_cons_zero, List.set_cons_succ]
    refine wpAnyH_done (by kernel_rfl) ?_ _
    exact NoPanic.normal (hQ _ _ _ _ _ _ _ _ _ _ _ _ _ _ _ _ _ _ _ _ _ _ _ _ _ _ _ _ _ _ _ _ _ _ _ hS1)
  | true =>
    have HCE : Hid _ := fun (W : World) (hSw : S2 w (.cells #[.int .i64 g.kind, .int .i64 g.n, .slice ag g.kids.length cg] 24 (0, 0)) A f (some ⟨fg, fo, none⟩) fc W) => (And.intro (cell_of_row _ _ 0 _ _ _ hSw.ra) (And.intro (cell_of_row _ _ 2 _ _ _ hSw.ra) (And.intro (cell_of_row _ _ 0 _ _ _ hSw.box) (And.intro (cell_of_row _ _ 1 _ _ _ hSw.box) (And.intro (cell_of_row _ _ 2 _ _ _ hSw.box) (And.intro ((hSw.bel.cell (p := ⟨fg, _, none⟩) hfg).trans y0) (And.intro ((hSw.bel.cell (p := ⟨fg, _, none⟩) hfg).trans y1) (And.intro ((hSw.bel.cell (p := ⟨fg, _, none⟩) hfg).trans y2) (And.intro ((hSw.bel.cell (p := ⟨fg, _, none⟩) hfg).trans y3) (And.intro ((hSw.bel.cell (p := ⟨fg, _, none⟩) hfg).trans y4) ((hSw.bel.cell (p := ⟨fg, _, none⟩) hfg).trans y5)))))))))))
    refine wp_region_held_drew (S := fun W => S2 w (.cells #[.int .i64 g.kind, .int .i64 g.n, .slice ag g.kids.length cg] 24 (0, 0)) A f (some ⟨fg, fo, none⟩) fc W) (by kernel_rfl) (by exact hS.below (below_drewN (Below.refl _ _) 1)) (fun hHeld => ?_)
    have hS0 := hHeld
    generalize hV : wq.drew = V0 at *
    clear hV
    refine tk (v := ?_) 0 o22_16_0 (by rfl) ?_ ?_
    case refine_2 => unfold o22_16_0; intro w hSw; obtain ⟨p0, p2, b0, b1, b2, q0, q1, q2, q3, q4, q5⟩ := HCE.out _ hSw; go_simp; (try with_reducible rfl)
    simp only [o22_16_0, Act.put, List.setIfInBounds_toArray, List.set_cons_zero, List.set_cons_succ]
    refine tk (v := ?_) 1 o22_16_1 (by rfl) ?_ ?_
    case refine_2 => unfold o22_16_1; intro w hSw; obtain ⟨p0, p2, b0, b1, b2, q0, q1, q2, q3, q4, q5⟩ := HCE.out _ hSw; go_simp; (try with_reducible rfl)
    simp only [o22_16_1, Act.put, List.setIfInBounds_toArray, List.set_cons_zero, List.set_cons_succ]
    refine tk (v := ?_) 2 o22_16_2 (by rfl) ?_ ?_
    case refine_2 => unfold o22_16_2; intro w hSw; obtain ⟨p0, p2, b0, b1, b2, q0, q1, q2, q3, q4, q5⟩ := HCE.out _ hSw; go_simp; (try with_reducible rfl)
    simp only [o22_16_2, Act.put, List.setIfInBounds_toArray, List.set_cons_zero, List.set_cons_succ]
    refine tk (v := ?_) 3 o22_16_3 (by rfl) ?_ ?_
    case refine_2 => unfold o22_16_3; intro w hSw; obtain ⟨p0, p2, b0, b1, b2, q0, q1, q2, q3, q4, q5⟩ := HCE.out _ hSw; go_simp; (try with_reducible rfl)
    simp only [o22_16_3, Act.put, List.setIfInBounds_toArray, List.set_cons_zero, List.set_cons_succ]
    refine tk (v := ?_) 4 o22_16_4 (by rfl) ?_ ?_
    case refine_2 => unfold o22_16_4; intro w hSw; obtain ⟨p0, p2, b0, b1, b2, q0, q1, q2, q3, q4, q5⟩ := HCE.out _ hSw; go_simp; (try with_reducible rfl)
    simp only [o22_16_4, Act.put, List.setIfInBounds_toArray, List.set_cons_zero, List.set_cons_succ]
    refine tk (v := ?_) 5 o22_16_5 (by rfl) ?_ ?_
    case refine_2 => unfold o22_16_5; intro w hSw; obtain ⟨p0, p2, b0, b1, b2, q0, q1, q2, q3, q4, q5⟩ := HCE.out _ hSw; go_simp; (try with_reducible rfl)
    simp only [o22_16_5, Act.put, List.setIfInBounds_toArray, List.set_cons_zero, List.set_cons_succ]
    refine tk (v := ?_) 6 o22_16_6 (by rfl) ?_ ?_
    case refine_2 => unfold o22_16_6; intro w hSw; obtain ⟨p0, p2, b0, b1, b2, q0, q1, q2, q3, q4, q5⟩ := HCE.out _ hSw; go_simp; (try with_reducible rfl)
    simp only [o22_16_6, Act.put, List.setIfInBounds_toArray, List.set_cons_zero, List.set_cons_succ]
    refine tk (v := ?_) 7 o22_16_7 (by rfl) ?_ ?_
    case refine_2 => unfold o22_16_7; intro w hSw; obtain ⟨p0, p2, b0, b1, b2, q0, q1, q2, q3, q4, q5⟩ := HCE.out _ hSw; go_simp; (try with_reducible rfl)
    simp only [o22_16_7, Act.put, List.setIfInBounds_toArray, List.set_cons_zero, List.set_cons_succ]
    refine tk (v := ?_) 8 o22_16_8 (by rfl) ?_ ?_
    case refine_2 => unfold o22_16_8; intro w hSw; obtain ⟨p0, p2, b0, b1, b2, q0, q1, q2, q3, q4, q5⟩ := HCE.out _ hSw; go_simp; (try with_reducible rfl)
    simp only [o22_16_8, Act.put, List.setIfInBounds_toArray, List.set_cons_zero, List.set_cons_succ]
    refine tk (v := ?_) 9 o22_16_9 (by rfl) ?_ ?_
    case refine_2 => unfold o22_16_9; intro w hSw; obtain ⟨p0, p2, b0, b1, b2, q0, q1, q2, q3, q4, q5⟩ := HCE.out _ hSw; go_simp; (try with_reducible rfl)
    simp only [o22_16_9, Act.put, List.setIfInBounds_toArray, List.set_cons_zero, List.set_cons_succ]
    refine tk (v := ?_) 10 o22_16_10 (by rfl) ?_ ?_
    case refine_2 => unfold o22_16_10; intro w hSw; obtain ⟨p0, p2, b0, b1, b2, q0, q1, q2, q3, q4, q5⟩ := HCE.out _ hSw; go_simp; (try with_reducible rfl)
    simp only [o22_16_10, Act.put, List.setIfInBounds_toArray, List.set_cons_zero, List.set_cons_succ]
    refine tk (v := ?_) 11 o22_16_11 (by rfl) ?_ ?_
    case refine_2 => unfold o22_16_11; intro w hSw; obtain ⟨p0, p2, b0, b1, b2, q0, q1, q2, q3, q4, q5⟩ := HCE.out _ hSw; go_simp; (try with_reducible rfl)
    simp only [o22_16_11, Act.put, List.setIfInBounds_toArray, List.set_cons_zero, List.set_cons_succ]
    refine tk (v := ?_) 12 o22_16_12 (by rfl) ?_ ?_
    case refine_2 => unfold o22_16_12; intro w hSw; obtain ⟨p0, p2, b0, b1, b2, q0, q1, q2, q3, q4, q5⟩ := HCE.out _ hSw; go_simp; (try with_reducible rfl)
    simp only [o22_16_12, Act.put, List.setIfInBounds_toArray, List.set_cons_zero, List.set_cons_succ]
    refine tk (v := ?_) 13 o22_16_13 (by rfl) ?_ ?_
    case refine_2 => unfold o22_16_13; intro w hSw; obtain ⟨p0, p2, b0, b1, b2, q0, q1, q2, q3, q4, q5⟩ := HCE.out _ hSw; go_simp; (try with_reducible rfl)
    simp only [o22_16_13, Act.put, List.setIfInBounds_toArray, List.set_cons_zero, List.set_cons_succ]
    refine tk (v := ?_) 14 o22_16_14 (by rfl) ?_ ?_
    case refine_2 => unfold o22_16_14; intro w hSw; obtain ⟨p0, p2, b0, b1, b2, q0, q1, q2, q3, q4, q5⟩ := HCE.out _ hSw; go_simp; (try with_reducible rfl)
    simp only [o22_16_14, Act.put, List.setIfInBounds_toArray, List.set_cons_zero, List.set_cons_succ]
    refine tk (v := ?_) 15 o22_16_15 (by rfl) ?_ ?_
    case refine_2 => unfold o22_16_15; intro w hSw; obtain ⟨p0, p2, b0, b1, b2, q0, q1, q2, q3, q4, q5⟩ := HCE.out _ hSw; go_simp; (try with_reducible rfl)
    simp only [o22_16_15, Act.put, List.setIfInBounds_toArray, List.set_cons_zero, List.set_cons_succ]
    refine tk (v := ?_) 16 o22_16_16 (by rfl) ?_ ?_
    case refine_2 => unfold o22_16_16; intro w hSw; obtain ⟨p0, p2, b0, b1, b2, q0, q1, q2, q3, q4, q5⟩ := HCE.out _ hSw; go_simp; (try with_reducible rfl)
    simp only [o22_16_16, Act.put, List.setIfInBounds_toArray, List.set_cons_zero, List.set_cons_succ]
    refine wpAnyH_ready (rs := [17]) (by kernel_rfl) (by simp) ?_
    refine (AllReadyH.cons (o := o22_16_17) rfl (fun K hK => ?_) AllReadyH.nil)
    unfold o22_16_17
    go_simp
    have KQ := IH.out _ HLD.out _ _ D (some ⟨lg, lo + k * 3, none⟩) (c - k) y ay cy V0 true (Nat.le_refl _) (HD.out.below hS0.bel) (HY.out.below hS0.bel) HGD.out HGY.out HDN.out HRD.out
    rw [HDL.out] at KQ
    unfold vty at KQ
    (with_reducible refine KQ.mono ?_)
    clear KQ
    rintro e1 V1 ⟨rfl, hb1⟩
    dsimp only
    have hS1 := hS0.below hb1
    refine hK.out _ _ ?_ (fun hHeld => ?_)
    · exact hS1
    clear hK K
    try simp only [Act.put, List.setIfInBounds_toArray, List.set_cons_zero, List.set_cons_succ]
    refine tk (v := ?_) 18 o22_16_18 (by rfl) ?_ ?_
    case refine_2 => unfold o22_16_18; intro w hSw; obtain ⟨p0, p2, b0, b1, b2, q0, q1, q2, q3, q4, q5⟩ := HCE.out _ hSw; go_simp; (try with_reducible rfl)
    simp only [o22_16_18, Act.put, List.setIfInBounds_toArray, List.set_cons_zero, List.set_cons_succ]
    refine tk (v := ?_) 19 o22_16_19 (by rfl) ?_ ?_
    case refine_2 => unfold o22_16_19; intro w hSw; obtain ⟨p0, p2, b0, b1, b2, q0, q1, q2, q3, q4, q5⟩ := HCE.out _ hSw; go_simp; (try with_reducible rfl)
    simp only [o22_16_19, Act.put, List.setIfInBounds_toArray, List.set_cons_zero, List.set_cons_succ]
    refine tk (v := ?_) 20 o22_16_20 (by rfl) ?_ ?_
    case refine_2 => unfold o22_16_20; intro w hSw; obtain ⟨p0, p2, b0, b1, b2, q0, q1, q2, q3, q4, q5⟩ := HCE.out _ hSw; go_simp; (try with_reducible rfl)
    simp only [o22_16_20, Act.put, List.setIfInBounds_toArray, List.set_cons_zero, List.set_cons_succ]
    refine tk (v := ?_) 21 o22_16_21 (by rfl) ?_ ?_
    case refine_2 => unfold o22_16_21; intro w hSw; obtain ⟨p0, p2, b0, b1, b2, q0, q1, q2, q3, q4, q5⟩ := HCE.out _ hSw; go_simp; (try with_reducible rfl)
    simp only [o22_16_21, Act.put, List.setIfInBounds_toArray, List.set_cons_zero, List.set_cons_succ]
    refine tk (v := ?_) 22 o22_16_22 (by rfl) ?_ ?_
    case refine_2 => unfold o22_16_22; intro w hSw; obtain ⟨p0, p2, b0, b1, b2, q0, q1, q2, q3, q4, q5⟩ := HCE.out _ hSw; go_simp; (try with_reducible rfl)
    simp only [o22_16_22, Act.put, List.setIfInBounds_toArray, List.set_cons_zero, List.set_cons_succ]
    refine tk (v := ?_) 23 o22_16_23 (by rfl) ?_ ?_
    case refine_2 => unfold o22_16_23; intro w hSw; obtain ⟨p0, p2, b0, b1, b2, q0, q1, q2, q3, q4, q5⟩ := HCE.out _ hSw; go_simp; (try with_reducible rfl)
    simp only [o22_16_23, Act.put, List.setIfInBounds_toArray, List.set_cons_zero, List.set_cons_succ]
    refine tk (v := ?_) 24 o22_16_24 (by rfl) ?_ ?_
    case refine_2 => unfold o22_16_24; intro w hSw; obtain ⟨p0, p2, b0, b1, b2, q0, q1, q2, q3, q4, q5⟩ := HCE.out _ hSw; go_simp; (try with_reducible rfl)
    simp only [o22_16_24, Act.put, List.setIfInBounds_toArray, List.set_cons_zero, List.set_cons_succ]
    refine tk (v := ?_) 25 o22_16_25 (by rfl) ?_ ?_
    case refine_2 => unfold o22_16_25; intro w hSw; obtain ⟨p0, p2, b0, b1, b2, q0, q1, q2, q3, q4, q5⟩ := HCE.out _ hSw; go_simp; (try with_reducible rfl)
    simp only [o22_16_25, Act.put, List.setIfInBounds_toArray, List.set_cons_zero, List.set_cons_succ]
    refine tk (v := ?_) 26 o22_16_26 (by rfl) ?_ ?_
    case refine_2 => unfold o22_16_26; intro w hSw; obtain ⟨p0, p2, b0, b1, b2, q0, q1, q2, q3, q4, q5⟩ := HCE.out _ hSw; go_simp; (try with_reducible rfl)
    simp only [o22_16_26, Act.put, List.setIfInBounds_toArray, List.set_cons_zero, List.set_cons_succ]
    refine tk (v := ?_) 27 o22_16_27 (by rfl) ?_ ?_
    case refine_2 => unfold o22_16_27; intro w hSw; obtain ⟨p0, p2, b0, b1, b2, q0, q1, q2, q3, q4, q5⟩ := HCE.out _ hSw; go_simp; (try with_reducible rfl)
    simp only [o22_16_27, Act.put, List.setIfInBounds_toArray, List.set_cons_zero, List.set_cons_succ]
    refine tk (v := ?_) 28 o22_16_28 (by rfl) ?_ ?_
    case refine_2 => unfold o22_16_28; intro w hSw; obtain ⟨p0, p2, b0, b1, b2, q0, q1, q2, q3, q4, q5⟩ := HCE.out _ hSw; go_simp; (try with_reducible rfl)
    simp only [o22_16_28, Act.put, List.setIfInBounds_toArray, List.set_cons_zero, List.set_cons_succ]
    refine tk (v := ?_) 32 o22_16_32 (by rfl) ?_ ?_
    case refine_2 => unfold o22_16_32; intro w hSw; obtain ⟨p0, p2, b0, b1, b2, q0, q1, q2, q3, q4, q5⟩ := HCE.out _ hSw; go_simp; (try with_reducible rfl)
    simp only [o22_16_32, Act.put, List.setIfInBounds_toArray, List.set_cons_zero, List.set_cons_succ]
    refine wpAnyH_ready (rs := [29]) (by kernel_rfl) (by simp) ?_
    refine (AllReadyH.cons (o := o22_16_29) rfl (fun K hK => ?_) AllReadyH.nil)
    unfold o22_16_29
    go_simp
    refine hK.out _ _ ?_ (fun hHeld => ?_)
    · exact hS1
    clear hK K
    try simp only [Act.put, List.setIfInBounds_toArray, List.set_cons_zero, List.set_cons_succ]
    generalize (if c = i1 then (some ⟨lg, lo, none⟩ : Option Addr) else some ⟨lg, lo + i1 * 3, none⟩) = bA at *
    refine wpAnyH_ready (rs := [30]) (by kernel_rfl) (by simp) ?_
    refine (AllReadyH.cons (o := o22_16_30) rfl (fun K hK => ?_) AllReadyH.nil)
    unfold o22_16_30
    go_simp
    have hn2 : (V1.alloc (.cells #[.slice (some ⟨lg, lo, none⟩) k c, .slice (some ⟨fg, fo + 3, none⟩) 1 (fc - 1), .slice bA (l.length - i1) (c - i1)] 22)).heap[V1.heap.size]? = some (.cells #[.slice (some ⟨lg, lo, none⟩) G.length c, .slice (some ⟨fg, fo + 3, none⟩) [x].length (fc - 1), .slice bA H.length (c - i1)] 22 (0, 0)) := by rw [HGN.out, HHN.out]; exact heap_alloc_new V1 (.cells #[.slice (some ⟨lg, lo, none⟩) k c, .slice (some ⟨fg, fo + 3, none⟩) 1 (fc - 1), .slice bA (l.length - i1) (c - i1)] 22)
    have hb2 : Below V1.heap.size V1 (V1.alloc (.cells #[.slice (some ⟨lg, lo, none⟩) k c, .slice (some ⟨fg, fo + 3, none⟩) 1 (fc - 1), .slice bA (l.length - i1) (c - i1)] 22)) := (Below.refl _ V1).alloc (Nat.le_refl _) _
    have hS2 := hS1.below hb2
    refine hK.out _ _ ?_ (fun hHeld => ?_)
    · exact hS2
    clear hK K
    try simp only [Act.put, List.setIfInBounds_toArray, List.set_cons_zero, List.set_cons_succ]
    generalize hV : V1.alloc (.cells #[.slice (some ⟨lg, lo, none⟩) k c, .slice (some ⟨fg, fo + 3, none⟩) 1 (fc - 1), .slice bA (l.length - i1) (c - i1)] 22) = V2 at *
    clear hV
    refine wpAnyH_ready (rs := [31]) (by kernel_rfl) (by simp) ?_
    refine (AllReadyH.cons (o := o22_16_31) rfl (fun K hK => ?_) AllReadyH.nil)
    unfold o22_16_31
    go_simp
    (with_reducible refine (joinq3 V1.heap.size G [x] H fl HJN.out V2 hn2 (HGT.out.below hS2.bel) (HKT.out.below hS2.bel) (HHT.out.below hS2.bel) HFL.out).mono ?_)
    rintro e3 V3 ⟨aj, cj, rfl, hT3, hb3⟩
    dsimp only
    have hS3 := hS2.below hb3
    refine hK.out _ _ ?_ (fun hHeld => ?_)
    · exact hS3
    clear hK K
    try simp only [Act.put, List.setIfInBounds_toArray, List.set_cons_zero, List.set_cons_succ]
    refine wpAnyH_ready (rs := [33]) (by kernel_rfl) (by simp) ?_
    refine (AllReadyH.cons (o := o22_16_33) rfl (fun K hK => ?_) AllReadyH.nil)
    unfold o22_16_33
    go_simp
    have KQ := IH.out _ HLE.out _ _ fl aj cj g ag cg V3 rE (Nat.le_refl _) hT3 (HG.out.below hS3.bel) HGF.out HGG.out HNE.out HRE.out
    unfold vty at KQ
    (with_reducible refine KQ.mono ?_)
    clear KQ
    rintro e4 V4 ⟨rfl, hb4⟩
    dsimp only
    have hS4 := hS3.below hb4
    refine hK.out _ _ ?_ (fun hHeld => ?_)
    · exact hS4
    clear hK K
    try simp only [Act.put, List.setIfInBounds_toArray, List.set_cons_zero, List.set_cons_succ]
    refine tk (v := ?_) 34 o22_16_34 (by rfl) ?_ ?_
    case refine_2 => unfold o22_16_34; intro w hSw; obtain ⟨p0, p2, b0, b1, b2, q0, q1, q2, q3, q4, q5⟩ := HCE.out _ hSw; go_simp; (try with_reducible rfl)
    simp only [o22_16_34, Act.put, List.setIfInBounds_toArray, List.set_cons_zero, List.set_cons_succ]
    refine wpAnyH_done (by kernel_rfl) ?_ _
    exact NoPanic.normal (hQ _ _ _ _ _ _ _ _ _ _ _ _ _ _ _ _ _ _ _ _ _ _ _ _ _ _ _ _ _ _ _ _ _ _ _ hS4)
end Go.Proofs.Ytbmgkgoghgdbhaa.Te
