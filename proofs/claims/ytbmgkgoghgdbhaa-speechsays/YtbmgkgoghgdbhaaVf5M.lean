/- A region of the document's Proves. Condition: the sequent is small. -/
import Derived.Test.YtbmgkgoghgdbhaaVe
import Derived.Test.YtbmgkgoghgdbhaaTk
import Derived.Deep.RegionHeld3
namespace Go.Proofs.Ytbmgkgoghgdbhaa.Te
open Go.RowKit

def o22_3_0 : Oper := { dst := some 17, op := Op.move (Operand.tmp 0), type := 22, pos := "speech.go:265", after := #[], guard := none }
def o22_3_1 : Oper := { dst := some 18, op := Op.call { callee := Callee.builtin Builtin.len, args := #[Operand.tmp 17], argTypes := #[22] }, type := 3, pos := "speech.go:265", after := #[{ on := 0, ground := Ground.data }], guard := none }
def o22_3_2 : Oper := { dst := some 19, op := Op.binOp BinOp.eql 3 (Operand.tmp 18) (Operand.const (Value.int IntKind.i64 1)) 3, type := 4, pos := "speech.go:265", after := #[{ on := 1, ground := Ground.data }], guard := none }
def o22_3_3 : Oper := { dst := some 20, op := Op.move (Operand.tmp 19), type := 4, pos := "speech.go:265", after := #[{ on := 2, ground := Ground.data }], guard := none }
def o22_3_4 : Oper := { dst := some 21, op := Op.move (Operand.tmp 0), type := 22, pos := "speech.go:265", after := #[{ on := 3, ground := Ground.guard }], guard := some (3, true) }
def o22_3_5 : Oper := { dst := some 22, op := Op.indexAddr 22 (Operand.tmp 21) (Operand.const (Value.int IntKind.i64 0)), type := 0, pos := "speech.go:265", after := #[{ on := 4, ground := Ground.data }, { on := 3, ground := Ground.guard }], guard := some (3, true) }
def o22_3_6 : Oper := { dst := some 23, op := Op.load 24 (Operand.tmp 22), type := 24, pos := "speech.go:265", after := #[{ on := 5, ground := Ground.data }, { on := 3, ground := Ground.guard }], guard := some (3, true) }
def o22_3_7 : Oper := { dst := some 24, op := Op.load 24 (Operand.tmp 3), type := 24, pos := "speech.go:265", after := #[{ on := 3, ground := Ground.guard }], guard := some (3, true) }
def o22_3_8 : Oper := { dst := some 25, op := Op.call { callee := Callee.value (Operand.func 16), args := #[Operand.tmp 23, Operand.tmp 24], argTypes := #[24, 24] }, type := 4, pos := "speech.go:265", after := #[{ on := 6, ground := Ground.data }, { on := 7, ground := Ground.data }, { on := 3, ground := Ground.chain }, { on := 3, ground := Ground.guard }], guard := some (3, true) }
def o22_3_9 : Oper := { dst := some 26, op := Op.pick (Operand.tmp 20) (Operand.tmp 25) (Operand.const (Value.bool false)), type := 4, pos := "speech.go:265", after := #[{ on := 3, ground := Ground.data }, { on := 8, ground := Ground.data }], guard := none }
set_option maxRecDepth 100000 in
set_option maxHeartbeats 8000000 in
theorem o22r3 {M d dg : Nat} {l : List Ty} {lg lo c : Nat} {g : Ty} {ag : Option Addr} {cg : Nat} {w wq : World} {Q : Exit → Act → World → Prop} (HSZ : Hid (szs l + sz g ≤ M)) (HM : Hid (M ≤ 900)) (hlen : l.length ≤ 900) (hl0 : 0 < l.length) (hroom : l.length ≤ c) (hlg : lg < w.heap.size) (HL : Hid (LsQ w d l (some ⟨lg, lo, none⟩) c)) (HG : Hid (TyQ w dg g ag cg)) (HGL : Hid (∀ t ∈ l, Gp t)) (HGG : Hid (Gp g)) (IH : Hid (∀ M', M' < M → PvOk M')) (hVb2 : Below w.heap.size w wq) (x2 : wq.heap[w.heap.size]? = some (.cells #[.int .i64 g.kind, .int .i64 g.n, .slice ag g.kids.length cg] 24 (0, 0))) {r3 : Bool} (H3L : Hid (r3 = true ↔ l = [g])) {u1 u2 u4 u5 u6 u7 u8 u9 u10 u11 u12 u13 u14 u15 u16 u17 u18 u19 u20 u21 u22 u23 u24 u25 u26 u27 u28 u29 u30 u31 u32 u33 u34 u35 u36 u37 u38 u39 u40 u41 u42 u43 u44 u45 u46 u47 u48 u49 u50 u51 u52 u53 u54 u55 u56 u57 u58 u59 u60 u61 u62 u63 u64 u65 u66 u67 u68 u69 u70 u71 u72 u73 u74 u75 u76 u77 u78 u79 u80 u81 u82 u83 u84 u85 u86 u87 u88 u89 u90 u91 u92 u93 u94 u95 u96 u97 u98 u99 u100 u101 u102 u103 u104 u105 u106 u107 u108 u109 u110 u111 u112 u113 u114 u115 u116 u117 u118 u119 u120 u121 u122 u123 u124 u125 u126 u127 u128 u129 u130 u131 u132 u133 u134 u135 u136 u137 u138 u139 u140 u141 u142 u143 u144 u145 u146 u147 u148 u149 u150 u151 : Value}
    (hQ : ∀ (v17 v18 v19 v20 v21 v22 v23 v24 v25 : Value) (wx : World), Below w.heap.size w wx ∧ wx.heap[w.heap.size]? = some (.cells #[.int .i64 g.kind, .int .i64 g.n, .slice ag g.kids.length cg] 24 (0, 0)) → Q .normal { tmps := #[.slice (some ⟨lg, lo, none⟩) l.length c, u1, u2, .pointer (some ⟨w.heap.size, 0, none⟩), u4, u5, u6, u7, u8, u9, u10, u11, u12, u13, u14, u15, u16, v17, v18, v19, v20, v21, v22, v23, v24, v25, .bool r3, u27, u28, u29, u30, u31, u32, u33, u34, u35, u36, u37, u38, u39, u40, u41, u42, u43, u44, u45, u46, u47, u48, u49, u50, u51, u52, u53, u54, u55, u56, u57, u58, u59, u60, u61, u62, u63, u64, u65, u66, u67, u68, u69, u70, u71, u72, u73, u74, u75, u76, u77, u78, u79, u80, u81, u82, u83, u84, u85, u86, u87, u88, u89, u90, u91, u92, u93, u94, u95, u96, u97, u98, u99, u100, u101, u102, u103, u104, u105, u106, u107, u108, u109, u110, u111, u112, u113, u114, u115, u116, u117, u118, u119, u120, u121, u122, u123, u124, u125, u126, u127, u128, u129, u130, u131, u132, u133, u134, u135, u136, u137, u138, u139, u140, u141, u142, u143, u144, u145, u146, u147, u148, u149, u150, u151], defers := [] } wx) :
    (Code.region 3 #[o22_3_0, o22_3_1, o22_3_2, o22_3_3, o22_3_4, o22_3_5, o22_3_6, o22_3_7, o22_3_8, o22_3_9] true).wp Try.prog Q { tmps := #[.slice (some ⟨lg, lo, none⟩) l.length c, u1, u2, .pointer (some ⟨w.heap.size, 0, none⟩), u4, u5, u6, u7, u8, u9, u10, u11, u12, u13, u14, u15, u16, u17, u18, u19, u20, u21, u22, u23, u24, u25, u26, u27, u28, u29, u30, u31, u32, u33, u34, u35, u36, u37, u38, u39, u40, u41, u42, u43, u44, u45, u46, u47, u48, u49, u50, u51, u52, u53, u54, u55, u56, u57, u58, u59, u60, u61, u62, u63, u64, u65, u66, u67, u68, u69, u70, u71, u72, u73, u74, u75, u76, u77, u78, u79, u80, u81, u82, u83, u84, u85, u86, u87, u88, u89, u90, u91, u92, u93, u94, u95, u96, u97, u98, u99, u100, u101, u102, u103, u104, u105, u106, u107, u108, u109, u110, u111, u112, u113, u114, u115, u116, u117, u118, u119, u120, u121, u122, u123, u124, u125, u126, u127, u128, u129, u130, u131, u132, u133, u134, u135, u136, u137, u138, u139, u140, u141, u142, u143, u144, u145, u146, u147, u148, u149, u150, u151], defers := [] } wq := by
  have hU_ : True := (fun _ _ _ _ _ _ _ _ _ _ _ _ _ => trivial) HSZ HM hlen hl0 hroom hlg HL HG HGL HGG IH hVb2 x2
  clear hU_
  refine wp_region_noPanic ?_
  by_cases hl1 : l.length = 1
  rotate_left
  · have hl1' : ¬ (l.length : Int) = 1 := by omega
    have hl1b : ((l.length : Int) == 1) = false := by simpa using hl1'
    have hrf : r3 = false := bool_false H3L.out (fun e => hl1 (by rw [e]; rfl))
    subst hrf
    refine wp_region_held_drew (S := fun W => Below w.heap.size w W ∧ W.heap[w.heap.size]? = some (.cells #[.int .i64 g.kind, .int .i64 g.n, .slice ag g.kids.length cg] 24 (0, 0))) (by kernel_rfl) (by exact ⟨below_drewN hVb2 1, x2⟩) (fun hHeld => ?_)
    have hS0 := hHeld
    generalize hV : wq.drew = V0 at *
    clear hV
    refine tk (v := ?_) 0 o22_3_0 (by rfl) ?_ ?_
    case refine_2 => unfold o22_3_0; intro w hSw; (try dsimp only at hSw); go_simp; (try with_reducible rfl)
    simp only [o22_3_0, Act.put, List.setIfInBounds_toArray, List.set_cons_zero, List.set_cons_succ]
    refine tk (v := ?_) 1 o22_3_1 (by rfl) ?_ ?_
    case refine_2 => unfold o22_3_1; intro w hSw; (try dsimp only at hSw); go_simp; (try with_reducible rfl)
    simp only [o22_3_1, Act.put, List.setIfInBounds_toArray, List.set_cons_zero, List.set_cons_succ]
    refine tk (v := ?_) 2 o22_3_2 (by rfl) ?_ ?_
    case refine_2 => unfold o22_3_2; intro w hSw; (try dsimp only at hSw); go_simp; (try with_reducible rfl)
    simp only [o22_3_2, Act.put, List.setIfInBounds_toArray, List.set_cons_zero, List.set_cons_succ]
    refine tk (v := ?_) 3 o22_3_3 (by rfl) ?_ ?_
    case refine_2 => unfold o22_3_3; intro w hSw; (try dsimp only at hSw); go_simp; (try with_reducible rfl)
    simp only [o22_3_3, Act.put, List.setIfInBounds_toArray, List.set_cons_zero, List.set_cons_succ]
    refine tks 4 o22_3_4 (by rfl) ?_
    simp only [o22_3_4, Act.put, List.setIfInBounds_toArray, List.set_cons_zero, List.set_cons_succ]
    refine tks 5 o22_3_5 (by rfl) ?_
    simp only [o22_3_5, Act.put, List.setIfInBounds_toArray, List.set_cons_zero, List.set_cons_succ]
    refine tks 6 o22_3_6 (by rfl) ?_
    simp only [o22_3_6, Act.put, List.setIfInBounds_toArray, List.set_cons_zero, List.set_cons_succ]
    refine tks 7 o22_3_7 (by rfl) ?_
    simp only [o22_3_7, Act.put, List.setIfInBounds_toArray, List.set_cons_zero, List.set_cons_succ]
    refine tks 8 o22_3_8 (by rfl) ?_
    simp only [o22_3_8, Act.put, List.setIfInBounds_toArray, List.set_cons_zero, List.set_cons_succ]
    refine tk (v := ?_) 9 o22_3_9 (by rfl) ?_ ?_
    case refine_2 => unfold o22_3_9; intro w hSw; (try dsimp only at hSw); go_simp; (try with_reducible rfl)
    simp only [o22_3_9, Act.put, List.setIfInBounds_toArray, List.set_cons_zero, List.set_cons_succ]
    refine wpAnyH_done (by kernel_rfl) ?_ _
    exact NoPanic.normal (hQ _ _ _ _ _ _ _ _ _ _ hS0)
  have hl1' : (l.length : Int) = 1 := by omega
  have hl1b : ((l.length : Int) == 1) = true := by simpa using hl1'
  have hl0i : (0 : Int) < (l.length : Int) := by omega
  have H3 : Hid (r3 = true ↔ l[0] = g) := by
    refine H3L.out.trans ?_
    obtain ⟨t, rfl⟩ := one_of hl1
    simp
  obtain ⟨lg', lo', a0, c0, ef, _, y0, y1, y2, hT⟩ := HL.out.kid (j := 0) hl0
  simp only [Option.some.injEq, Addr.mk.injEq, and_true] at ef
  obtain ⟨rfl, rfl⟩ := ef
  simp only [Nat.zero_mul, Nat.add_zero] at y0 y1 y2 hT
  have hT0 : Hid (TyQ w d l[0] a0 c0) := hT
  clear hT hl1 hl1'
  have HCE : Hid _ := fun (W : World) (hSw : Below w.heap.size w W ∧ W.heap[w.heap.size]? = some (.cells #[.int .i64 g.kind, .int .i64 g.n, .slice ag g.kids.length cg] 24 (0, 0))) => (And.intro (cell_of_row _ _ 0 _ _ _ hSw.2) (And.intro (cell_of_row _ _ 1 _ _ _ hSw.2) (And.intro (cell_of_row _ _ 2 _ _ _ hSw.2) (And.intro ((hSw.1.cell (p := ⟨lg, _, none⟩) hlg).trans y0) (And.intro ((hSw.1.cell (p := ⟨lg, _, none⟩) hlg).trans y1) ((hSw.1.cell (p := ⟨lg, _, none⟩) hlg).trans y2))))))
  refine wp_region_held_drew (S := fun W => Below w.heap.size w W ∧ W.heap[w.heap.size]? = some (.cells #[.int .i64 g.kind, .int .i64 g.n, .slice ag g.kids.length cg] 24 (0, 0))) (by kernel_rfl) (by exact ⟨below_drewN hVb2 1, x2⟩) (fun hHeld => ?_)
  have hS0 := hHeld
  generalize hV : wq.drew = V0 at *
  clear hV
  refine tk (v := ?_) 0 o22_3_0 (by rfl) ?_ ?_
  case refine_2 => unfold o22_3_0; intro w hSw; obtain ⟨p0, p1, p2, q0, q1, q2⟩ := HCE.out _ hSw; go_simp; (try with_reducible rfl)
  simp only [o22_3_0, Act.put, List.setIfInBounds_toArray, List.set_cons_zero, List.set_cons_succ]
  refine tk (v := ?_) 1 o22_3_1 (by rfl) ?_ ?_
  case refine_2 => unfold o22_3_1; intro w hSw; obtain ⟨p0, p1, p2, q0, q1, q2⟩ := HCE.out _ hSw; go_simp; (try with_reducible rfl)
  simp only [o22_3_1, Act.put, List.setIfInBounds_toArray, List.set_cons_zero, List.set_cons_succ]
  refine tk (v := ?_) 2 o22_3_2 (by rfl) ?_ ?_
  case refine_2 => unfold o22_3_2; intro w hSw; obtain ⟨p0, p1, p2, q0, q1, q2⟩ := HCE.out _ hSw; go_simp; (try with_reducible rfl)
  simp only [o22_3_2, Act.put, List.setIfInBounds_toArray, List.set_cons_zero, List.set_cons_succ]
  refine tk (v := ?_) 3 o22_3_3 (by rfl) ?_ ?_
  case refine_2 => unfold o22_3_3; intro w hSw; obtain ⟨p0, p1, p2, q0, q1, q2⟩ := HCE.out _ hSw; go_simp; (try with_reducible rfl)
  simp only [o22_3_3, Act.put, List.setIfInBounds_toArray, List.set_cons_zero, List.set_cons_succ]
  refine tk (v := ?_) 4 o22_3_4 (by rfl) ?_ ?_
  case refine_2 => unfold o22_3_4; intro w hSw; obtain ⟨p0, p1, p2, q0, q1, q2⟩ := HCE.out _ hSw; go_simp; (try with_reducible rfl)
  simp only [o22_3_4, Act.put, List.setIfInBounds_toArray, List.set_cons_zero, List.set_cons_succ]
  refine tk (v := ?_) 5 o22_3_5 (by rfl) ?_ ?_
  case refine_2 => unfold o22_3_5; intro w hSw; obtain ⟨p0, p1, p2, q0, q1, q2⟩ := HCE.out _ hSw; go_simp; (try with_reducible rfl)
  simp only [o22_3_5, Act.put, List.setIfInBounds_toArray, List.set_cons_zero, List.set_cons_succ]
  refine tk (v := ?_) 6 o22_3_6 (by rfl) ?_ ?_
  case refine_2 => unfold o22_3_6; intro w hSw; obtain ⟨p0, p1, p2, q0, q1, q2⟩ := HCE.out _ hSw; go_simp; (try with_reducible rfl)
  simp only [o22_3_6, Act.put, List.setIfInBounds_toArray, List.set_cons_zero, List.set_cons_succ]
  refine tk (v := ?_) 7 o22_3_7 (by rfl) ?_ ?_
  case refine_2 => unfold o22_3_7; intro w hSw; obtain ⟨p0, p1, p2, q0, q1, q2⟩ := HCE.out _ hSw; go_simp; (try with_reducible rfl)
  simp only [o22_3_7, Act.put, List.setIfInBounds_toArray, List.set_cons_zero, List.set_cons_succ]
  refine wpAnyH_ready (rs := [8]) (by kernel_rfl) (by simp) ?_
  refine (AllReadyH.cons (o := o22_3_8) rfl (fun K hK => ?_) AllReadyH.nil)
  unfold o22_3_8
  go_simp
  have KQ := same_doc _ l[0] a0 c0 _ g ag cg V0 r3 H3.out (hT0.out.at.below hS0.1) (HG.out.at.below hS0.1)
  unfold vty at KQ
  (with_reducible refine KQ.mono ?_)
  clear KQ
  rintro e1 V1 ⟨rfl, hb1⟩
  dsimp only
  have hS1 := And.intro (hS0.1.trans (hb1.mono hS0.1.size)) ((hb1.block _ (lt_of_get hS0.2)).trans hS0.2)
  refine hK.out _ _ ?_ (fun hHeld => ?_)
  · exact hS1
  clear hK K
  try simp only [Act.put, List.setIfInBounds_toArray, List.set_cons_zero, List.set_cons_succ]
  refine tk (v := ?_) 9 o22_3_9 (by rfl) ?_ ?_
  case refine_2 => unfold o22_3_9; intro w hSw; obtain ⟨p0, p1, p2, q0, q1, q2⟩ := HCE.out _ hSw; go_simp; (try with_reducible rfl)
  simp only [o22_3_9, Act.put, List.setIfInBounds_toArray, List.set_cons_zero, List.set_cons_succ]
  refine wpAnyH_done (by kernel_rfl) ?_ _
  exact NoPanic.normal (hQ _ _ _ _ _ _ _ _ _ _ hS1)
    
end Go.Proofs.Ytbmgkgoghgdbhaa.Te
/- A region of the document's Proves. Condition: the sequent is small. -/
namespace Go.Proofs.Ytbmgkgoghgdbhaa.Te
open Go.RowKit

def o22_5_0 : Oper := { dst := some 27, op := Op.fieldAddr 24 (Operand.tmp 3) 0, type := 0, pos := "speech.go:268", after := #[], guard := none }
def o22_5_1 : Oper := { dst := some 28, op := Op.load 3 (Operand.tmp 27), type := 3, pos := "speech.go:268", after := #[{ on := 0, ground := Ground.data }], guard := none }
def o22_5_2 : Oper := { dst := some 29, op := Op.binOp BinOp.eql 3 (Operand.tmp 28) (Operand.const (Value.int IntKind.i64 2)) 3, type := 4, pos := "speech.go:268", after := #[{ on := 1, ground := Ground.data }], guard := none }
def o22_5_3 : Oper := { dst := some 30, op := Op.move (Operand.tmp 29), type := 4, pos := "speech.go:268", after := #[{ on := 2, ground := Ground.data }], guard := none }
def o22_5_4 : Oper := { dst := some 31, op := Op.move (Operand.tmp 0), type := 22, pos := "speech.go:268", after := #[{ on := 3, ground := Ground.guard }], guard := some (3, true) }
def o22_5_5 : Oper := { dst := some 32, op := Op.fieldAddr 24 (Operand.tmp 3) 2, type := 0, pos := "speech.go:268", after := #[{ on := 3, ground := Ground.guard }], guard := some (3, true) }
def o22_5_6 : Oper := { dst := some 33, op := Op.load 22 (Operand.tmp 32), type := 22, pos := "speech.go:268", after := #[{ on := 5, ground := Ground.data }, { on := 3, ground := Ground.guard }], guard := some (3, true) }
def o22_5_7 : Oper := { dst := some 34, op := Op.indexAddr 22 (Operand.tmp 33) (Operand.const (Value.int IntKind.i64 1)), type := 0, pos := "speech.go:268", after := #[{ on := 6, ground := Ground.data }, { on := 3, ground := Ground.guard }], guard := some (3, true) }
def o22_5_8 : Oper := { dst := some 35, op := Op.load 24 (Operand.tmp 34), type := 24, pos := "speech.go:268", after := #[{ on := 7, ground := Ground.data }, { on := 3, ground := Ground.guard }], guard := some (3, true) }
def o22_5_9 : Oper := { dst := some 36, op := Op.buildSlice 22 1 #[(0, Operand.tmp 35)], type := 22, pos := "speech.go:268", after := #[{ on := 8, ground := Ground.data }, { on := 3, ground := Ground.guard }], guard := some (3, true) }
def o22_5_10 : Oper := { dst := some 37, op := Op.buildSlice 49 2 #[(0, Operand.tmp 31), (1, Operand.tmp 36)], type := 49, pos := "speech.go:268", after := #[{ on := 4, ground := Ground.data }, { on := 9, ground := Ground.data }, { on := 3, ground := Ground.guard }], guard := some (3, true) }
def o22_5_11 : Oper := { dst := some 38, op := Op.call { callee := Callee.value (Operand.func 52), args := #[Operand.tmp 37], argTypes := #[49] }, type := 22, pos := "speech.go:268", after := #[{ on := 10, ground := Ground.data }, { on := 3, ground := Ground.chain }, { on := 3, ground := Ground.guard }], guard := some (3, true) }
def o22_5_12 : Oper := { dst := some 39, op := Op.fieldAddr 24 (Operand.tmp 3) 2, type := 0, pos := "speech.go:268", after := #[{ on := 3, ground := Ground.guard }], guard := some (3, true) }
def o22_5_13 : Oper := { dst := some 40, op := Op.load 22 (Operand.tmp 39), type := 22, pos := "speech.go:268", after := #[{ on := 12, ground := Ground.data }, { on := 3, ground := Ground.guard }], guard := some (3, true) }
def o22_5_14 : Oper := { dst := some 41, op := Op.indexAddr 22 (Operand.tmp 40) (Operand.const (Value.int IntKind.i64 0)), type := 0, pos := "speech.go:268", after := #[{ on := 13, ground := Ground.data }, { on := 3, ground := Ground.guard }], guard := some (3, true) }
def o22_5_15 : Oper := { dst := some 42, op := Op.load 24 (Operand.tmp 41), type := 24, pos := "speech.go:268", after := #[{ on := 14, ground := Ground.data }, { on := 3, ground := Ground.guard }], guard := some (3, true) }
def o22_5_16 : Oper := { dst := some 43, op := Op.call { callee := Callee.value (Operand.func 22), args := #[Operand.tmp 38, Operand.tmp 42], argTypes := #[22, 24] }, type := 4, pos := "speech.go:268", after := #[{ on := 11, ground := Ground.data }, { on := 15, ground := Ground.data }, { on := 11, ground := Ground.chain }, { on := 3, ground := Ground.guard }], guard := some (3, true) }
def o22_5_17 : Oper := { dst := some 44, op := Op.pick (Operand.tmp 30) (Operand.tmp 43) (Operand.const (Value.bool false)), type := 4, pos := "speech.go:268", after := #[{ on := 3, ground := Ground.data }, { on := 16, ground := Ground.data }], guard := none }
def o22_5_18 : Oper := { dst := some 45, op := Op.move (Operand.tmp 44), type := 4, pos := "speech.go:268", after := #[{ on := 17, ground := Ground.data }, { on := 16, ground := Ground.chain }], guard := none }
def o22_5_19 : Oper := { dst := some 46, op := Op.fieldAddr 24 (Operand.tmp 3) 0, type := 0, pos := "speech.go:268", after := #[{ on := 18, ground := Ground.guard }], guard := some (18, false) }
def o22_5_20 : Oper := { dst := some 47, op := Op.load 3 (Operand.tmp 46), type := 3, pos := "speech.go:268", after := #[{ on := 19, ground := Ground.data }, { on := 18, ground := Ground.guard }], guard := some (18, false) }
def o22_5_21 : Oper := { dst := some 48, op := Op.binOp BinOp.eql 3 (Operand.tmp 47) (Operand.const (Value.int IntKind.i64 3)) 3, type := 4, pos := "speech.go:268", after := #[{ on := 20, ground := Ground.data }, { on := 18, ground := Ground.guard }], guard := some (18, false) }
def o22_5_22 : Oper := { dst := some 49, op := Op.move (Operand.tmp 48), type := 4, pos := "speech.go:268", after := #[{ on := 21, ground := Ground.data }, { on := 18, ground := Ground.chain }, { on := 18, ground := Ground.guard }], guard := some (18, false) }
def o22_5_23 : Oper := { dst := some 50, op := Op.fieldAddr 24 (Operand.tmp 3) 2, type := 0, pos := "speech.go:268", after := #[{ on := 22, ground := Ground.guard }], guard := some (22, true) }
def o22_5_24 : Oper := { dst := some 51, op := Op.load 22 (Operand.tmp 50), type := 22, pos := "speech.go:268", after := #[{ on := 23, ground := Ground.data }, { on := 22, ground := Ground.guard }], guard := some (22, true) }
def o22_5_25 : Oper := { dst := some 52, op := Op.indexAddr 22 (Operand.tmp 51) (Operand.const (Value.int IntKind.i64 0)), type := 0, pos := "speech.go:268", after := #[{ on := 24, ground := Ground.data }, { on := 22, ground := Ground.guard }], guard := some (22, true) }
def o22_5_26 : Oper := { dst := some 53, op := Op.load 24 (Operand.tmp 52), type := 24, pos := "speech.go:268", after := #[{ on := 25, ground := Ground.data }, { on := 22, ground := Ground.guard }], guard := some (22, true) }
def o22_5_27 : Oper := { dst := some 54, op := Op.buildSlice 22 1 #[(0, Operand.tmp 53)], type := 22, pos := "speech.go:268", after := #[{ on := 26, ground := Ground.data }, { on := 22, ground := Ground.guard }], guard := some (22, true) }
def o22_5_28 : Oper := { dst := some 55, op := Op.move (Operand.tmp 0), type := 22, pos := "speech.go:268", after := #[{ on := 22, ground := Ground.guard }], guard := some (22, true) }
def o22_5_29 : Oper := { dst := some 56, op := Op.buildSlice 49 2 #[(0, Operand.tmp 54), (1, Operand.tmp 55)], type := 49, pos := "speech.go:268", after := #[{ on := 27, ground := Ground.data }, { on := 28, ground := Ground.data }, { on := 22, ground := Ground.guard }], guard := some (22, true) }
def o22_5_30 : Oper := { dst := some 57, op := Op.call { callee := Callee.value (Operand.func 52), args := #[Operand.tmp 56], argTypes := #[49] }, type := 22, pos := "speech.go:268", after := #[{ on := 29, ground := Ground.data }, { on := 22, ground := Ground.chain }, { on := 22, ground := Ground.guard }], guard := some (22, true) }
def o22_5_31 : Oper := { dst := some 58, op := Op.fieldAddr 24 (Operand.tmp 3) 2, type := 0, pos := "speech.go:268", after := #[{ on := 22, ground := Ground.guard }], guard := some (22, true) }
def o22_5_32 : Oper := { dst := some 59, op := Op.load 22 (Operand.tmp 58), type := 22, pos := "speech.go:268", after := #[{ on := 31, ground := Ground.data }, { on := 22, ground := Ground.guard }], guard := some (22, true) }
def o22_5_33 : Oper := { dst := some 60, op := Op.indexAddr 22 (Operand.tmp 59) (Operand.const (Value.int IntKind.i64 1)), type := 0, pos := "speech.go:268", after := #[{ on := 32, ground := Ground.data }, { on := 22, ground := Ground.guard }], guard := some (22, true) }
def o22_5_34 : Oper := { dst := some 61, op := Op.load 24 (Operand.tmp 60), type := 24, pos := "speech.go:268", after := #[{ on := 33, ground := Ground.data }, { on := 22, ground := Ground.guard }], guard := some (22, true) }
def o22_5_35 : Oper := { dst := some 62, op := Op.call { callee := Callee.value (Operand.func 22), args := #[Operand.tmp 57, Operand.tmp 61], argTypes := #[22, 24] }, type := 4, pos := "speech.go:268", after := #[{ on := 30, ground := Ground.data }, { on := 34, ground := Ground.data }, { on := 30, ground := Ground.chain }, { on := 22, ground := Ground.guard }], guard := some (22, true) }
def o22_5_36 : Oper := { dst := some 63, op := Op.pick (Operand.tmp 49) (Operand.tmp 62) (Operand.const (Value.bool false)), type := 4, pos := "speech.go:268", after := #[{ on := 22, ground := Ground.data }, { on := 35, ground := Ground.data }, { on := 18, ground := Ground.guard }], guard := some (18, false) }
def o22_5_37 : Oper := { dst := some 64, op := Op.pick (Operand.tmp 45) (Operand.const (Value.bool true)) (Operand.tmp 63), type := 4, pos := "speech.go:268", after := #[{ on := 18, ground := Ground.data }, { on := 36, ground := Ground.data }], guard := none }
set_option maxRecDepth 100000 in
set_option maxHeartbeats 8000000 in
theorem o22r5 {M d dg : Nat} {l : List Ty} {lg lo c : Nat} {g : Ty} {ag : Option Addr} {cg : Nat} {w wq : World} {Q : Exit → Act → World → Prop} (HSZ : Hid (szs l + sz g ≤ M)) (HM : Hid (M ≤ 900)) (hlen : l.length ≤ 900) (hl0 : 0 < l.length) (hroom : l.length ≤ c) (hlg : lg < w.heap.size) (HL : Hid (LsQ w d l (some ⟨lg, lo, none⟩) c)) (HG : Hid (TyQ w dg g ag cg)) (HGL : Hid (∀ t ∈ l, Gp t)) (HGG : Hid (Gp g)) (IH : Hid (∀ M', M' < M → PvOk M')) (hVb2 : Below w.heap.size w wq) (x2 : wq.heap[w.heap.size]? = some (.cells #[.int .i64 g.kind, .int .i64 g.n, .slice ag g.kids.length cg] 24 (0, 0))) {r5 : Bool} (H5 : Hid (r5 = true ↔ Qg l g)) {u1 u2 u4 u5 u6 u7 u8 u9 u10 u11 u12 u13 u14 u15 u16 u17 u18 u19 u20 u21 u22 u23 u24 u25 u26 u27 u28 u29 u30 u31 u32 u33 u34 u35 u36 u37 u38 u39 u40 u41 u42 u43 u44 u45 u46 u47 u48 u49 u50 u51 u52 u53 u54 u55 u56 u57 u58 u59 u60 u61 u62 u63 u64 u65 u66 u67 u68 u69 u70 u71 u72 u73 u74 u75 u76 u77 u78 u79 u80 u81 u82 u83 u84 u85 u86 u87 u88 u89 u90 u91 u92 u93 u94 u95 u96 u97 u98 u99 u100 u101 u102 u103 u104 u105 u106 u107 u108 u109 u110 u111 u112 u113 u114 u115 u116 u117 u118 u119 u120 u121 u122 u123 u124 u125 u126 u127 u128 u129 u130 u131 u132 u133 u134 u135 u136 u137 u138 u139 u140 u141 u142 u143 u144 u145 u146 u147 u148 u149 u150 u151 : Value}
    (hQ : ∀ (v27 v28 v29 v30 v31 v32 v33 v34 v35 v36 v37 v38 v39 v40 v41 v42 v43 v44 v45 v46 v47 v48 v49 v50 v51 v52 v53 v54 v55 v56 v57 v58 v59 v60 v61 v62 v63 : Value) (wx : World), Below w.heap.size w wx ∧ wx.heap[w.heap.size]? = some (.cells #[.int .i64 g.kind, .int .i64 g.n, .slice ag g.kids.length cg] 24 (0, 0)) → Q .normal { tmps := #[.slice (some ⟨lg, lo, none⟩) l.length c, u1, u2, .pointer (some ⟨w.heap.size, 0, none⟩), u4, u5, u6, u7, u8, u9, u10, u11, u12, u13, u14, u15, u16, u17, u18, u19, u20, u21, u22, u23, u24, u25, u26, v27, v28, v29, v30, v31, v32, v33, v34, v35, v36, v37, v38, v39, v40, v41, v42, v43, v44, v45, v46, v47, v48, v49, v50, v51, v52, v53, v54, v55, v56, v57, v58, v59, v60, v61, v62, v63, .bool r5, u65, u66, u67, u68, u69, u70, u71, u72, u73, u74, u75, u76, u77, u78, u79, u80, u81, u82, u83, u84, u85, u86, u87, u88, u89, u90, u91, u92, u93, u94, u95, u96, u97, u98, u99, u100, u101, u102, u103, u104, u105, u106, u107, u108, u109, u110, u111, u112, u113, u114, u115, u116, u117, u118, u119, u120, u121, u122, u123, u124, u125, u126, u127, u128, u129, u130, u131, u132, u133, u134, u135, u136, u137, u138, u139, u140, u141, u142, u143, u144, u145, u146, u147, u148, u149, u150, u151], defers := [] } wx) :
    (Code.region 5 #[o22_5_0, o22_5_1, o22_5_2, o22_5_3, o22_5_4, o22_5_5, o22_5_6, o22_5_7, o22_5_8, o22_5_9, o22_5_10, o22_5_11, o22_5_12, o22_5_13, o22_5_14, o22_5_15, o22_5_16, o22_5_17, o22_5_18, o22_5_19, o22_5_20, o22_5_21, o22_5_22, o22_5_23, o22_5_24, o22_5_25, o22_5_26, o22_5_27, o22_5_28, o22_5_29, o22_5_30, o22_5_31, o22_5_32, o22_5_33, o22_5_34, o22_5_35, o22_5_36, o22_5_37] true).wp Try.prog Q { tmps := #[.slice (some ⟨lg, lo, none⟩) l.length c, u1, u2, .pointer (some ⟨w.heap.size, 0, none⟩), u4, u5, u6, u7, u8, u9, u10, u11, u12, u13, u14, u15, u16, u17, u18, u19, u20, u21, u22, u23, u24, u25, u26, u27, u28, u29, u30, u31, u32, u33, u34, u35, u36, u37, u38, u39, u40, u41, u42, u43, u44, u45, u46, u47, u48, u49, u50, u51, u52, u53, u54, u55, u56, u57, u58, u59, u60, u61, u62, u63, u64, u65, u66, u67, u68, u69, u70, u71, u72, u73, u74, u75, u76, u77, u78, u79, u80, u81, u82, u83, u84, u85, u86, u87, u88, u89, u90, u91, u92, u93, u94, u95, u96, u97, u98, u99, u100, u101, u102, u103, u104, u105, u106, u107, u108, u109, u110, u111, u112, u113, u114, u115, u116, u117, u118, u119, u120, u121, u122, u123, u124, u125, u126, u127, u128, u129, u130, u131, u132, u133, u134, u135, u136, u137, u138, u139, u140, u141, u142, u143, u144, u145, u146, u147, u148, u149, u150, u151], defers := [] } wq := by
  have hU_ : True := (fun _ _ _ _ _ _ _ _ _ _ _ _ _ => trivial) HSZ HM hlen hl0 hroom hlg HL HG HGL HGG IH hVb2 x2
  clear hU_
  refine wp_region_noPanic ?_
  rcases gp_cases HGG.out with ⟨kb, hgo, _⟩ | ⟨X0, X1, hgo, g0, g1⟩ | ⟨X0, X1, hgo, g0, g1⟩
  · have hgb2 : (g.kind == 2) = false := by rw [hgo]; rfl
    have hgb3 : (g.kind == 3) = false := by rw [hgo]; rfl
    have hrf : r5 = false := bool_false H5.out (fun h => by
      rcases h with ⟨x, y, e, _⟩ | ⟨y, x, e, _⟩
      · exact ov_bs (e.symm.trans hgo)
      · exact un_bs (e.symm.trans hgo))
    subst hrf
    clear hgo
    have HCE : Hid _ := fun (W : World) (hSw : Below w.heap.size w W ∧ W.heap[w.heap.size]? = some (.cells #[.int .i64 g.kind, .int .i64 g.n, .slice ag g.kids.length cg] 24 (0, 0))) => (And.intro (cell_of_row _ _ 0 _ _ _ hSw.2) (cell_of_row _ _ 2 _ _ _ hSw.2))
    refine wp_region_held_drew (S := fun W => Below w.heap.size w W ∧ W.heap[w.heap.size]? = some (.cells #[.int .i64 g.kind, .int .i64 g.n, .slice ag g.kids.length cg] 24 (0, 0))) (by kernel_rfl) (by exact ⟨below_drewN hVb2 1, x2⟩) (fun hHeld => ?_)
    have hS0 := hHeld
    generalize hV : wq.drew = V0 at *
    clear hV
    refine tk (v := ?_) 0 o22_5_0 (by rfl) ?_ ?_
    case refine_2 => unfold o22_5_0; intro w hSw; obtain ⟨p0, p2⟩ := HCE.out _ hSw; go_simp; (try with_reducible rfl)
    simp only [o22_5_0, Act.put, List.setIfInBounds_toArray, List.set_cons_zero, List.set_cons_succ]
    refine tk (v := ?_) 1 o22_5_1 (by rfl) ?_ ?_
    case refine_2 => unfold o22_5_1; intro w hSw; obtain ⟨p0, p2⟩ := HCE.out _ hSw; go_simp; (try with_reducible rfl)
    simp only [o22_5_1, Act.put, List.setIfInBounds_toArray, List.set_cons_zero, List.set_cons_succ]
    refine tk (v := ?_) 2 o22_5_2 (by rfl) ?_ ?_
    case refine_2 => unfold o22_5_2; intro w hSw; obtain ⟨p0, p2⟩ := HCE.out _ hSw; go_simp; (try with_reducible rfl)
    simp only [o22_5_2, Act.put, List.setIfInBounds_toArray, List.set_cons_zero, List.set_cons_succ]
    refine tk (v := ?_) 3 o22_5_3 (by rfl) ?_ ?_
    case refine_2 => unfold o22_5_3; intro w hSw; obtain ⟨p0, p2⟩ := HCE.out _ hSw; go_simp; (try with_reducible rfl)
    simp only [o22_5_3, Act.put, List.setIfInBounds_toArray, List.set_cons_zero, List.set_cons_succ]
    refine tks 4 o22_5_4 (by rfl) ?_
    simp only [o22_5_4, Act.put, List.setIfInBounds_toArray, List.set_cons_zero, List.set_cons_succ]
    refine tks 5 o22_5_5 (by rfl) ?_
    simp only [o22_5_5, Act.put, List.setIfInBounds_toArray, List.set_cons_zero, List.set_cons_succ]
    refine tks 6 o22_5_6 (by rfl) ?_
    simp only [o22_5_6, Act.put, List.setIfInBounds_toArray, List.set_cons_zero, List.set_cons_succ]
    refine tks 7 o22_5_7 (by rfl) ?_
    simp only [o22_5_7, Act.put, List.setIfInBounds_toArray, List.set_cons_zero, List.set_cons_succ]
    refine tks 8 o22_5_8 (by rfl) ?_
    simp only [o22_5_8, Act.put, List.setIfInBounds_toArray, List.set_cons_zero, List.set_cons_succ]
    refine tks 9 o22_5_9 (by rfl) ?_
    simp only [o22_5_9, Act.put, List.setIfInBounds_toArray, List.set_cons_zero, List.set_cons_succ]
    refine tks 10 o22_5_10 (by rfl) ?_
    simp only [o22_5_10, Act.put, List.setIfInBounds_toArray, List.set_cons_zero, List.set_cons_succ]
    refine tks 11 o22_5_11 (by rfl) ?_
    simp only [o22_5_11, Act.put, List.setIfInBounds_toArray, List.set_cons_zero, List.set_cons_succ]
    refine tks 12 o22_5_12 (by rfl) ?_
    simp only [o22_5_12, Act.put, List.setIfInBounds_toArray, List.set_cons_zero, List.set_cons_succ]
    refine tks 13 o22_5_13 (by rfl) ?_
    simp only [o22_5_13, Act.put, List.setIfInBounds_toArray, List.set_cons_zero, List.set_cons_succ]
    refine tks 14 o22_5_14 (by rfl) ?_
    simp only [o22_5_14, Act.put, List.setIfInBounds_toArray, List.set_cons_zero, List.set_cons_succ]
    refine tks 15 o22_5_15 (by rfl) ?_
    simp only [o22_5_15, Act.put, List.setIfInBounds_toArray, List.set_cons_zero, List.set_cons_succ]
    refine tks 16 o22_5_16 (by rfl) ?_
    simp only [o22_5_16, Act.put, List.setIfInBounds_toArray, List.set_cons_zero, List.set_cons_succ]
    refine tk (v := ?_) 17 o22_5_17 (by rfl) ?_ ?_
    case refine_2 => unfold o22_5_17; intro w hSw; obtain ⟨p0, p2⟩ := HCE.out _ hSw; go_simp; (try with_reducible rfl)
    simp only [o22_5_17, Act.put, List.setIfInBounds_toArray, List.set_cons_zero, List.set_cons_succ]
    refine tk (v := ?_) 18 o22_5_18 (by rfl) ?_ ?_
    case refine_2 => unfold o22_5_18; intro w hSw; obtain ⟨p0, p2⟩ := HCE.out _ hSw; go_simp; (try with_reducible rfl)
    simp only [o22_5_18, Act.put, List.setIfInBounds_toArray, List.set_cons_zero, List.set_cons_succ]
    refine tk (v := ?_) 19 o22_5_19 (by rfl) ?_ ?_
    case refine_2 => unfold o22_5_19; intro w hSw; obtain ⟨p0, p2⟩ := HCE.out _ hSw; go_simp; (try with_reducible rfl)
    simp only [o22_5_19, Act.put, List.setIfInBounds_toArray, List.set_cons_zero, List.set_cons_succ]
    refine tk (v := ?_) 20 o22_5_20 (by rfl) ?_ ?_
    case refine_2 => unfold o22_5_20; intro w hSw; obtain ⟨p0, p2⟩ := HCE.out _ hSw; go_simp; (try with_reducible rfl)
    simp only [o22_5_20, Act.put, List.setIfInBounds_toArray, List.set_cons_zero, List.set_cons_succ]
    refine tk (v := ?_) 21 o22_5_21 (by rfl) ?_ ?_
    case refine_2 => unfold o22_5_21; intro w hSw; obtain ⟨p0, p2⟩ := HCE.out _ hSw; go_simp; (try with_reducible rfl)
    simp only [o22_5_21, Act.put, List.setIfInBounds_toArray, List.set_cons_zero, List.set_cons_succ]
    refine tk (v := ?_) 22 o22_5_22 (by rfl) ?_ ?_
    case refine_2 => unfold o22_5_22; intro w hSw; obtain ⟨p0, p2⟩ := HCE.out _ hSw; go_simp; (try with_reducible rfl)
    simp only [o22_5_22, Act.put, List.setIfInBounds_toArray, List.set_cons_zero, List.set_cons_succ]
    refine tks 23 o22_5_23 (by rfl) ?_
    simp only [o22_5_23, Act.put, List.setIfInBounds_toArray, List.set_cons_zero, List.set_cons_succ]
    refine tks 24 o22_5_24 (by rfl) ?_
    simp only [o22_5_24, Act.put, List.setIfInBounds_toArray, List.set_cons_zero, List.set_cons_succ]
    refine tks 25 o22_5_25 (by rfl) ?_
    simp only [o22_5_25, Act.put, List.setIfInBounds_toArray, List.set_cons_zero, List.set_cons_succ]
    refine tks 26 o22_5_26 (by rfl) ?_
    simp only [o22_5_26, Act.put, List.setIfInBounds_toArray, List.set_cons_zero, List.set_cons_succ]
    refine tks 27 o22_5_27 (by rfl) ?_
    simp only [o22_5_27, Act.put, List.setIfInBounds_toArray, List.set_cons_zero, List.set_cons_succ]
    refine tks 28 o22_5_28 (by rfl) ?_
    simp only [o22_5_28, Act.put, List.setIfInBounds_toArray, List.set_cons_zero, List.set_cons_succ]
    refine tks 29 o22_5_29 (by rfl) ?_
    simp only [o22_5_29, Act.put, List.setIfInBounds_toArray, List.set_cons_zero, List.set_cons_succ]
    refine tks 30 o22_5_30 (by rfl) ?_
    simp only [o22_5_30, Act.put, List.setIfInBounds_toArray, List.set_cons_zero, List.set_cons_succ]
    refine tks 31 o22_5_31 (by rfl) ?_
    simp only [o22_5_31, Act.put, List.setIfInBounds_toArray, List.set_cons_zero, List.set_cons_succ]
    refine tks 32 o22_5_32 (by rfl) ?_
    simp only [o22_5_32, Act.put, List.setIfInBounds_toArray, List.set_cons_zero, List.set_cons_succ]
    refine tks 33 o22_5_33 (by rfl) ?_
    simp only [o22_5_33, Act.put, List.setIfInBounds_toArray, List.set_cons_zero, List.set_cons_succ]
    refine tks 34 o22_5_34 (by rfl) ?_
    simp only [o22_5_34, Act.put, List.setIfInBounds_toArray, List.set_cons_zero, List.set_cons_succ]
    refine tks 35 o22_5_35 (by rfl) ?_
    simp only [o22_5_35, Act.put, List.setIfInBounds_toArray, List.set_cons_zero, List.set_cons_succ]
    refine tk (v := ?_) 36 o22_5_36 (by rfl) ?_ ?_
    case refine_2 => unfold o22_5_36; intro w hSw; obtain ⟨p0, p2⟩ := HCE.out _ hSw; go_simp; (try with_reducible rfl)
    simp only [o22_5_36, Act.put, List.setIfInBounds_toArray, List.set_cons_zero, List.set_cons_succ]
    refine tk (v := ?_) 37 o22_5_37 (by rfl) ?_ ?_
    case refine_2 => unfold o22_5_37; intro w hSw; obtain ⟨p0, p2⟩ := HCE.out _ hSw; go_simp; (try with_reducible rfl)
    simp only [o22_5_37, Act.put, List.setIfInBounds_toArray, List.set_cons_zero, List.set_cons_succ]
    refine wpAnyH_done (by kernel_rfl) ?_ _
    exact NoPanic.normal (hQ _ _ _ _ _ _ _ _ _ _ _ _ _ _ _ _ _ _ _ _ _ _ _ _ _ _ _ _ _ _ _ _ _ _ _ _ _ _ hS0)
  · have HGO : Hid (g = ov X0 X1) := hgo
    have hgb2 : (g.kind == 2) = true := by rw [hgo]; rfl
    have hgb3 : (g.kind == 3) = false := by rw [hgo]; rfl
    have hG2 : TyQ w dg (ov X0 X1) ag cg := hgo ▸ HG.out
    have hgl0 : 0 < g.kids.length := by rw [hgo]; simp [ov]
    have hgl1 : 1 < g.kids.length := by rw [hgo]; simp [ov]
    have hgl0' : (0 : Int) < (g.kids.length : Int) := by omega
    have hgl1' : (1 : Int) < (g.kids.length : Int) := by omega
    obtain ⟨d', rfl⟩ := hG2.pos
    obtain ⟨gg, go_, a0, c0, rfl, hgg, y0, y1, y2, hx⟩ := hG2.kid (j := 0) (by simp [ov])
    obtain ⟨gg2, go2, a1, c1, ef, hgg2, y3, y4, y5, hy⟩ := hG2.kid (j := 1) (by simp [ov])
    simp only [Option.some.injEq, Addr.mk.injEq, and_true] at ef
    obtain ⟨rfl, rfl⟩ := ef
    simp only [ov, List.getElem_cons_zero, List.getElem_cons_succ, Nat.zero_mul, Nat.add_zero, Nat.one_mul] at y0 y1 y2 y3 y4 y5 hx hy
    have HX0 : Hid (TyQ w d' X0 a0 c0) := hx
    have HX1 : Hid (TyQ w d' X1 a1 c1) := hy
    obtain ⟨fl, hfl⟩ : ∃ fl, l ++ [X1] = fl := ⟨_, rfl⟩
    have HJN : Hid (l ++ [X1] = fl) := hfl
    have hsum : szs fl + sz X0 < M := by
      have h1 := HSZ.out
      rw [hgo, sz_ov] at h1
      rw [← hfl, szs_app, szs_cons, szs_nil]
      omega
    have HLT : Hid (szs fl + sz X0 < M) := hsum
    have HFL : Hid (fl.length ≤ 1000) := by have := szs_len fl; have := HM.out; show fl.length ≤ 1000; omega
    have HGF : Hid (∀ t ∈ fl, Gp t) := fun t ht => by
      rw [← hfl] at ht
      simp only [List.mem_append, List.mem_cons, List.not_mem_nil, or_false] at ht
      rcases ht with ht | rfl
      · exact HGL.out t ht
      · exact g1
    have HGX : Hid (Gp X0) := g0
    have HNE : Hid (fl ≠ []) := by show fl ≠ []; rw [← hfl]; simp
    have HRV0 : r5 = true ↔ E fl X0 := by
      rw [H5.out, ← hfl]
      unfold Qg
      rw [hgo]
      constructor
      · rintro (⟨x, y, e, h⟩ | ⟨y, x, e, h⟩)
        · obtain ⟨rfl, rfl⟩ := ov_inj e; exact h
        · exact (ov_un e).elim
      · intro h
        exact .inl ⟨X0, X1, rfl, h⟩
    have HRV : Hid (r5 = true ↔ E fl X0) := HRV0
    clear HRV0 hsum hfl hgo hG2 hx hy hgg2 g0 g1
    cases r5 with
    | true =>
      have HCE : Hid _ := fun (W : World) (hSw : Below w.heap.size w W ∧ W.heap[w.heap.size]? = some (.cells #[.int .i64 g.kind, .int .i64 g.n, .slice (some ⟨gg, go_, none⟩) g.kids.length cg] 24 (0, 0))) => (And.intro (cell_of_row _ _ 0 _ _ _ hSw.2) (And.intro (cell_of_row _ _ 2 _ _ _ hSw.2) (And.intro ((hSw.1.cell (p := ⟨gg, _, none⟩) hgg).trans y0) (And.intro ((hSw.1.cell (p := ⟨gg, _, none⟩) hgg).trans y1) (And.intro ((hSw.1.cell (p := ⟨gg, _, none⟩) hgg).trans y2) (And.intro ((hSw.1.cell (p := ⟨gg, _, none⟩) hgg).trans y3) (And.intro ((hSw.1.cell (p := ⟨gg, _, none⟩) hgg).trans y4) ((hSw.1.cell (p := ⟨gg, _, none⟩) hgg).trans y5))))))))
      refine wp_region_held_drew (S := fun W => Below w.heap.size w W ∧ W.heap[w.heap.size]? = some (.cells #[.int .i64 g.kind, .int .i64 g.n, .slice (some ⟨gg, go_, none⟩) g.kids.length cg] 24 (0, 0))) (by kernel_rfl) (by exact ⟨below_drewN hVb2 1, x2⟩) (fun hHeld => ?_)
      have hS0 := hHeld
      generalize hV : wq.drew = V0 at *
      clear hV
      refine tk (v := ?_) 0 o22_5_0 (by rfl) ?_ ?_
      case refine_2 => unfold o22_5_0; intro w hSw; obtain ⟨p0, p2, q0, q1, q2, q3, q4, q5⟩ := HCE.out _ hSw; go_simp; (try with_reducible rfl)
      simp only [o22_5_0, Act.put, List.setIfInBounds_toArray, List.set_cons_zero, List.set_cons_succ]
      refine tk (v := ?_) 1 o22_5_1 (by rfl) ?_ ?_
      case refine_2 => unfold o22_5_1; intro w hSw; obtain ⟨p0, p2, q0, q1, q2, q3, q4, q5⟩ := HCE.out _ hSw; go_simp; (try with_reducible rfl)
      simp only [o22_5_1, Act.put, List.setIfInBounds_toArray, List.set_cons_zero, List.set_cons_succ]
      refine tk (v := ?_) 2 o22_5_2 (by rfl) ?_ ?_
      case refine_2 => unfold o22_5_2; intro w hSw; obtain ⟨p0, p2, q0, q1, q2, q3, q4, q5⟩ := HCE.out _ hSw; go_simp; (try with_reducible rfl)
      simp only [o22_5_2, Act.put, List.setIfInBounds_toArray, List.set_cons_zero, List.set_cons_succ]
      refine tk (v := ?_) 3 o22_5_3 (by rfl) ?_ ?_
      case refine_2 => unfold o22_5_3; intro w hSw; obtain ⟨p0, p2, q0, q1, q2, q3, q4, q5⟩ := HCE.out _ hSw; go_simp; (try with_reducible rfl)
      simp only [o22_5_3, Act.put, List.setIfInBounds_toArray, List.set_cons_zero, List.set_cons_succ]
      refine tk (v := ?_) 4 o22_5_4 (by rfl) ?_ ?_
      case refine_2 => unfold o22_5_4; intro w hSw; obtain ⟨p0, p2, q0, q1, q2, q3, q4, q5⟩ := HCE.out _ hSw; go_simp; (try with_reducible rfl)
      simp only [o22_5_4, Act.put, List.setIfInBounds_toArray, List.set_cons_zero, List.set_cons_succ]
      refine tk (v := ?_) 5 o22_5_5 (by rfl) ?_ ?_
      case refine_2 => unfold o22_5_5; intro w hSw; obtain ⟨p0, p2, q0, q1, q2, q3, q4, q5⟩ := HCE.out _ hSw; go_simp; (try with_reducible rfl)
      simp only [o22_5_5, Act.put, List.setIfInBounds_toArray, List.set_cons_zero, List.set_cons_succ]
      refine tk (v := ?_) 6 o22_5_6 (by rfl) ?_ ?_
      case refine_2 => unfold o22_5_6; intro w hSw; obtain ⟨p0, p2, q0, q1, q2, q3, q4, q5⟩ := HCE.out _ hSw; go_simp; (try with_reducible rfl)
      simp only [o22_5_6, Act.put, List.setIfInBounds_toArray, List.set_cons_zero, List.set_cons_succ]
      refine tk (v := ?_) 7 o22_5_7 (by rfl) ?_ ?_
      case refine_2 => unfold o22_5_7; intro w hSw; obtain ⟨p0, p2, q0, q1, q2, q3, q4, q5⟩ := HCE.out _ hSw; go_simp; (try with_reducible rfl)
      simp only [o22_5_7, Act.put, List.setIfInBounds_toArray, List.set_cons_zero, List.set_cons_succ]
      refine tk (v := ?_) 8 o22_5_8 (by rfl) ?_ ?_
      case refine_2 => unfold o22_5_8; intro w hSw; obtain ⟨p0, p2, q0, q1, q2, q3, q4, q5⟩ := HCE.out _ hSw; go_simp; (try with_reducible rfl)
      simp only [o22_5_8, Act.put, List.setIfInBounds_toArray, List.set_cons_zero, List.set_cons_succ]
      refine tk (v := ?_) 12 o22_5_12 (by rfl) ?_ ?_
      case refine_2 => unfold o22_5_12; intro w hSw; obtain ⟨p0, p2, q0, q1, q2, q3, q4, q5⟩ := HCE.out _ hSw; go_simp; (try with_reducible rfl)
      simp only [o22_5_12, Act.put, List.setIfInBounds_toArray, List.set_cons_zero, List.set_cons_succ]
      refine tk (v := ?_) 13 o22_5_13 (by rfl) ?_ ?_
      case refine_2 => unfold o22_5_13; intro w hSw; obtain ⟨p0, p2, q0, q1, q2, q3, q4, q5⟩ := HCE.out _ hSw; go_simp; (try with_reducible rfl)
      simp only [o22_5_13, Act.put, List.setIfInBounds_toArray, List.set_cons_zero, List.set_cons_succ]
      refine tk (v := ?_) 14 o22_5_14 (by rfl) ?_ ?_
      case refine_2 => unfold o22_5_14; intro w hSw; obtain ⟨p0, p2, q0, q1, q2, q3, q4, q5⟩ := HCE.out _ hSw; go_simp; (try with_reducible rfl)
      simp only [o22_5_14, Act.put, List.setIfInBounds_toArray, List.set_cons_zero, List.set_cons_succ]
      refine tk (v := ?_) 15 o22_5_15 (by rfl) ?_ ?_
      case refine_2 => unfold o22_5_15; intro w hSw; obtain ⟨p0, p2, q0, q1, q2, q3, q4, q5⟩ := HCE.out _ hSw; go_simp; (try with_reducible rfl)
      simp only [o22_5_15, Act.put, List.setIfInBounds_toArray, List.set_cons_zero, List.set_cons_succ]
      refine wpAnyH_ready (rs := [9]) (by kernel_rfl) (by simp) ?_
      refine (AllReadyH.cons (o := o22_5_9) rfl (fun K hK => ?_) AllReadyH.nil)
      unfold o22_5_9
      go_simp
      have hn1 := heap_alloc_new V0 (.cells #[.int .i64 X1.kind, .int .i64 X1.n, .slice a1 X1.kids.length c1] 24)
      have hb1 : Below V0.heap.size V0 (V0.alloc (.cells #[.int .i64 X1.kind, .int .i64 X1.n, .slice a1 X1.kids.length c1] 24)) := (Below.refl _ V0).alloc (Nat.le_refl _) _
      have hS1 := And.intro (hS0.1.trans (hb1.mono hS0.1.size)) ((hb1.block _ (lt_of_get hS0.2)).trans hS0.2)
      refine hK.out _ _ ?_ (fun hHeld => ?_)
      · exact hS1
      clear hK K
      try simp only [Act.put, List.setIfInBounds_toArray, List.set_cons_zero, List.set_cons_succ]
      generalize hV : V0.alloc (.cells #[.int .i64 X1.kind, .int .i64 X1.n, .slice a1 X1.kids.length c1] 24) = V1 at *
      clear hV
      refine wpAnyH_ready (rs := [10]) (by kernel_rfl) (by simp) ?_
      refine (AllReadyH.cons (o := o22_5_10) rfl (fun K hK => ?_) AllReadyH.nil)
      unfold o22_5_10
      go_simp
      have hn2 := heap_alloc_new V1 (.cells #[.slice (some ⟨lg, lo, none⟩) l.length c, .slice (some ⟨V0.heap.size, 0, none⟩) 1 1] 22)
      have hb2 : Below V1.heap.size V1 (V1.alloc (.cells #[.slice (some ⟨lg, lo, none⟩) l.length c, .slice (some ⟨V0.heap.size, 0, none⟩) 1 1] 22)) := (Below.refl _ V1).alloc (Nat.le_refl _) _
      have hS2 := And.intro (hS1.1.trans (hb2.mono hS1.1.size)) ((hb2.block _ (lt_of_get hS1.2)).trans hS1.2)
      have hn1 := (hb2.block _ (lt_of_get hn1)).trans hn1
      refine hK.out _ _ ?_ (fun hHeld => ?_)
      · exact hS2
      clear hK K
      try simp only [Act.put, List.setIfInBounds_toArray, List.set_cons_zero, List.set_cons_succ]
      generalize hV : V1.alloc (.cells #[.slice (some ⟨lg, lo, none⟩) l.length c, .slice (some ⟨V0.heap.size, 0, none⟩) 1 1] 22) = V2 at *
      clear hV
      refine wpAnyH_ready (rs := [11]) (by kernel_rfl) (by simp) ?_
      refine (AllReadyH.cons (o := o22_5_11) rfl (fun K hK => ?_) AllReadyH.nil)
      unfold o22_5_11
      go_simp
      (with_reducible refine (joinq2 V1.heap.size l [X1] fl HJN.out V2 hn2 (HL.out.below hS2.1) (lsq_one (HX1.out.below hS2.1) hn1) HFL.out).mono ?_)
      rintro e3 V3 ⟨aj, cj, rfl, hT3, hb3⟩
      dsimp only
      have hS3 := And.intro (hS2.1.trans (hb3.mono hS2.1.size)) ((hb3.block _ (lt_of_get hS2.2)).trans hS2.2)
      refine hK.out _ _ ?_ (fun hHeld => ?_)
      · exact hS3
      clear hK K
      try simp only [Act.put, List.setIfInBounds_toArray, List.set_cons_zero, List.set_cons_succ]
      refine wpAnyH_ready (rs := [16]) (by kernel_rfl) (by simp) ?_
      refine (AllReadyH.cons (o := o22_5_16) rfl (fun K hK => ?_) AllReadyH.nil)
      unfold o22_5_16
      go_simp
      have KQ := IH.out _ HLT.out _ _ fl aj cj X0 a0 c0 V3 true (Nat.le_refl _) hT3 (HX0.out.below hS3.1) HGF.out HGX.out HNE.out HRV.out
      unfold vty at KQ
      (with_reducible refine KQ.mono ?_)
      clear KQ
      rintro e4 V4 ⟨rfl, hb4⟩
      dsimp only
      have hS4 := And.intro (hS3.1.trans (hb4.mono hS3.1.size)) ((hb4.block _ (lt_of_get hS3.2)).trans hS3.2)
      refine hK.out _ _ ?_ (fun hHeld => ?_)
      · exact hS4
      clear hK K
      try simp only [Act.put, List.setIfInBounds_toArray, List.set_cons_zero, List.set_cons_succ]
      refine tk (v := ?_) 17 o22_5_17 (by rfl) ?_ ?_
      case refine_2 => unfold o22_5_17; intro w hSw; obtain ⟨p0, p2, q0, q1, q2, q3, q4, q5⟩ := HCE.out _ hSw; go_simp; (try with_reducible rfl)
      simp only [o22_5_17, Act.put, List.setIfInBounds_toArray, List.set_cons_zero, List.set_cons_succ]
      refine tk (v := ?_) 18 o22_5_18 (by rfl) ?_ ?_
      case refine_2 => unfold o22_5_18; intro w hSw; obtain ⟨p0, p2, q0, q1, q2, q3, q4, q5⟩ := HCE.out _ hSw; go_simp; (try with_reducible rfl)
      simp only [o22_5_18, Act.put, List.setIfInBounds_toArray, List.set_cons_zero, List.set_cons_succ]
      refine tks 19 o22_5_19 (by rfl) ?_
      simp only [o22_5_19, Act.put, List.setIfInBounds_toArray, List.set_cons_zero, List.set_cons_succ]
      refine tks 20 o22_5_20 (by rfl) ?_
      simp only [o22_5_20, Act.put, List.setIfInBounds_toArray, List.set_cons_zero, List.set_cons_succ]
      refine tks 21 o22_5_21 (by rfl) ?_
      simp only [o22_5_21, Act.put, List.setIfInBounds_toArray, List.set_cons_zero, List.set_cons_succ]
      refine tks 22 o22_5_22 (by rfl) ?_
      simp only [o22_5_22, Act.put, List.setIfInBounds_toArray, List.set_cons_zero, List.set_cons_succ]
      refine tks 23 o22_5_23 (by rfl) ?_
      simp only [o22_5_23, Act.put, List.setIfInBounds_toArray, List.set_cons_zero, List.set_cons_succ]
      refine tks 24 o22_5_24 (by rfl) ?_
      simp only [o22_5_24, Act.put, List.setIfInBounds_toArray, List.set_cons_zero, List.set_cons_succ]
      refine tks 25 o22_5_25 (by rfl) ?_
      simp only [o22_5_25, Act.put, List.setIfInBounds_toArray, List.set_cons_zero, List.set_cons_succ]
      refine tks 26 o22_5_26 (by rfl) ?_
      simp only [o22_5_26, Act.put, List.setIfInBounds_toArray, List.set_cons_zero, List.set_cons_succ]
      refine tks 27 o22_5_27 (by rfl) ?_
      simp only [o22_5_27, Act.put, List.setIfInBounds_toArray, List.set_cons_zero, List.set_cons_succ]
      refine tks 28 o22_5_28 (by rfl) ?_
      simp only [o22_5_28, Act.put, List.setIfInBounds_toArray, List.set_cons_zero, List.set_cons_succ]
      refine tks 29 o22_5_29 (by rfl) ?_
      simp only [o22_5_29, Act.put, List.setIfInBounds_toArray, List.set_cons_zero, List.set_cons_succ]
      refine tks 30 o22_5_30 (by rfl) ?_
      simp only [o22_5_30, Act.put, List.setIfInBounds_toArray, List.set_cons_zero, List.set_cons_succ]
      refine tks 31 o22_5_31 (by rfl) ?_
      simp only [o22_5_31, Act.put, List.setIfInBounds_toArray, List.set_cons_zero, List.set_cons_succ]
      refine tks 32 o22_5_32 (by rfl) ?_
      simp only [o22_5_32, Act.put, List.setIfInBounds_toArray, List.set_cons_zero, List.set_cons_succ]
      refine tks 33 o22_5_33 (by rfl) ?_
      simp only [o22_5_33, Act.put, List.setIfInBounds_toArray, List.set_cons_zero, List.set_cons_succ]
      refine tks 34 o22_5_34 (by rfl) ?_
      simp only [o22_5_34, Act.put, List.setIfInBounds_toArray, List.set_cons_zero, List.set_cons_succ]
      refine tks 35 o22_5_35 (by rfl) ?_
      simp only [o22_5_35, Act.put, List.setIfInBounds_toArray, List.set_cons_zero, List.set_cons_succ]
      refine tks 36 o22_5_36 (by rfl) ?_
      simp only [o22_5_36, Act.put, List.setIfInBounds_toArray, List.set_cons_zero, List.set_cons_succ]
      refine tk (v := ?_) 37 o22_5_37 (by rfl) ?_ ?_
      case refine_2 => unfold o22_5_37; intro w hSw; obtain ⟨p0, p2, q0, q1, q2, q3, q4, q5⟩ := HCE.out _ hSw; go_simp; (try with_reducible rfl)
      simp only [o22_5_37, Act.put, List.setIfInBounds_toArray, List.set_cons_zero, List.set_cons_succ]
      refine wpAnyH_done (by kernel_rfl) ?_ _
      exact NoPanic.normal (hQ _ _ _ _ _ _ _ _ _ _ _ _ _ _ _ _ _ _ _ _ _ _ _ _ _ _ _ _ _ _ _ _ _ _ _ _ _ _ hS4)
    | false =>
      have HCE : Hid _ := fun (W : World) (hSw : Below w.heap.size w W ∧ W.heap[w.heap.size]? = some (.cells #[.int .i64 g.kind, .int .i64 g.n, .slice (some ⟨gg, go_, none⟩) g.kids.length cg] 24 (0, 0))) => (And.intro (cell_of_row _ _ 0 _ _ _ hSw.2) (And.intro (cell_of_row _ _ 2 _ _ _ hSw.2) (And.intro ((hSw.1.cell (p := ⟨gg, _, none⟩) hgg).trans y0) (And.intro ((hSw.1.cell (p := ⟨gg, _, none⟩) hgg).trans y1) (And.intro ((hSw.1.cell (p := ⟨gg, _, none⟩) hgg).trans y2) (And.intro ((hSw.1.cell (p := ⟨gg, _, none⟩) hgg).trans y3) (And.intro ((hSw.1.cell (p := ⟨gg, _, none⟩) hgg).trans y4) ((hSw.1.cell (p := ⟨gg, _, none⟩) hgg).trans y5))))))))
      refine wp_region_held_drew (S := fun W => Below w.heap.size w W ∧ W.heap[w.heap.size]? = some (.cells #[.int .i64 g.kind, .int .i64 g.n, .slice (some ⟨gg, go_, none⟩) g.kids.length cg] 24 (0, 0))) (by kernel_rfl) (by exact ⟨below_drewN hVb2 1, x2⟩) (fun hHeld => ?_)
      have hS0 := hHeld
      generalize hV : wq.drew = V0 at *
      clear hV
      refine tk (v := ?_) 0 o22_5_0 (by rfl) ?_ ?_
      case refine_2 => unfold o22_5_0; intro w hSw; obtain ⟨p0, p2, q0, q1, q2, q3, q4, q5⟩ := HCE.out _ hSw; go_simp; (try with_reducible rfl)
      simp only [o22_5_0, Act.put, List.setIfInBounds_toArray, List.set_cons_zero, List.set_cons_succ]
      refine tk (v := ?_) 1 o22_5_1 (by rfl) ?_ ?_
      case refine_2 => unfold o22_5_1; intro w hSw; obtain ⟨p0, p2, q0, q1, q2, q3, q4, q5⟩ := HCE.out _ hSw; go_simp; (try with_reducible rfl)
      simp only [o22_5_1, Act.put, List.setIfInBounds_toArray, List.set_cons_zero, List.set_cons_succ]
      refine tk (v := ?_) 2 o22_5_2 (by rfl) ?_ ?_
      case refine_2 => unfold o22_5_2; intro w hSw; obtain ⟨p0, p2, q0, q1, q2, q3, q4, q5⟩ := HCE.out _ hSw; go_simp; (try with_reducible rfl)
      simp only [o22_5_2, Act.put, List.setIfInBounds_toArray, List.set_cons_zero, List.set_cons_succ]
      refine tk (v := ?_) 3 o22_5_3 (by rfl) ?_ ?_
      case refine_2 => unfold o22_5_3; intro w hSw; obtain ⟨p0, p2, q0, q1, q2, q3, q4, q5⟩ := HCE.out _ hSw; go_simp; (try with_reducible rfl)
      simp only [o22_5_3, Act.put, List.setIfInBounds_toArray, List.set_cons_zero, List.set_cons_succ]
      refine tk (v := ?_) 4 o22_5_4 (by rfl) ?_ ?_
      case refine_2 => unfold o22_5_4; intro w hSw; obtain ⟨p0, p2, q0, q1, q2, q3, q4, q5⟩ := HCE.out _ hSw; go_simp; (try with_reducible rfl)
      simp only [o22_5_4, Act.put, List.setIfInBounds_toArray, List.set_cons_zero, List.set_cons_succ]
      refine tk (v := ?_) 5 o22_5_5 (by rfl) ?_ ?_
      case refine_2 => unfold o22_5_5; intro w hSw; obtain ⟨p0, p2, q0, q1, q2, q3, q4, q5⟩ := HCE.out _ hSw; go_simp; (try with_reducible rfl)
      simp only [o22_5_5, Act.put, List.setIfInBounds_toArray, List.set_cons_zero, List.set_cons_succ]
      refine tk (v := ?_) 6 o22_5_6 (by rfl) ?_ ?_
      case refine_2 => unfold o22_5_6; intro w hSw; obtain ⟨p0, p2, q0, q1, q2, q3, q4, q5⟩ := HCE.out _ hSw; go_simp; (try with_reducible rfl)
      simp only [o22_5_6, Act.put, List.setIfInBounds_toArray, List.set_cons_zero, List.set_cons_succ]
      refine tk (v := ?_) 7 o22_5_7 (by rfl) ?_ ?_
      case refine_2 => unfold o22_5_7; intro w hSw; obtain ⟨p0, p2, q0, q1, q2, q3, q4, q5⟩ := HCE.out _ hSw; go_simp; (try with_reducible rfl)
      simp only [o22_5_7, Act.put, List.setIfInBounds_toArray, List.set_cons_zero, List.set_cons_succ]
      refine tk (v := ?_) 8 o22_5_8 (by rfl) ?_ ?_
      case refine_2 => unfold o22_5_8; intro w hSw; obtain ⟨p0, p2, q0, q1, q2, q3, q4, q5⟩ := HCE.out _ hSw; go_simp; (try with_reducible rfl)
      simp only [o22_5_8, Act.put, List.setIfInBounds_toArray, List.set_cons_zero, List.set_cons_succ]
      refine tk (v := ?_) 12 o22_5_12 (by rfl) ?_ ?_
      case refine_2 => unfold o22_5_12; intro w hSw; obtain ⟨p0, p2, q0, q1, q2, q3, q4, q5⟩ := HCE.out _ hSw; go_simp; (try with_reducible rfl)
      simp only [o22_5_12, Act.put, List.setIfInBounds_toArray, List.set_cons_zero, List.set_cons_succ]
      refine tk (v := ?_) 13 o22_5_13 (by rfl) ?_ ?_
      case refine_2 => unfold o22_5_13; intro w hSw; obtain ⟨p0, p2, q0, q1, q2, q3, q4, q5⟩ := HCE.out _ hSw; go_simp; (try with_reducible rfl)
      simp only [o22_5_13, Act.put, List.setIfInBounds_toArray, List.set_cons_zero, List.set_cons_succ]
      refine tk (v := ?_) 14 o22_5_14 (by rfl) ?_ ?_
      case refine_2 => unfold o22_5_14; intro w hSw; obtain ⟨p0, p2, q0, q1, q2, q3, q4, q5⟩ := HCE.out _ hSw; go_simp; (try with_reducible rfl)
      simp only [o22_5_14, Act.put, List.setIfInBounds_toArray, List.set_cons_zero, List.set_cons_succ]
      refine tk (v := ?_) 15 o22_5_15 (by rfl) ?_ ?_
      case refine_2 => unfold o22_5_15; intro w hSw; obtain ⟨p0, p2, q0, q1, q2, q3, q4, q5⟩ := HCE.out _ hSw; go_simp; (try with_reducible rfl)
      simp only [o22_5_15, Act.put, List.setIfInBounds_toArray, List.set_cons_zero, List.set_cons_succ]
      refine wpAnyH_ready (rs := [9]) (by kernel_rfl) (by simp) ?_
      refine (AllReadyH.cons (o := o22_5_9) rfl (fun K hK => ?_) AllReadyH.nil)
      unfold o22_5_9
      go_simp
      have hn1 := heap_alloc_new V0 (.cells #[.int .i64 X1.kind, .int .i64 X1.n, .slice a1 X1.kids.length c1] 24)
      have hb1 : Below V0.heap.size V0 (V0.alloc (.cells #[.int .i64 X1.kind, .int .i64 X1.n, .slice a1 X1.kids.length c1] 24)) := (Below.refl _ V0).alloc (Nat.le_refl _) _
      have hS1 := And.intro (hS0.1.trans (hb1.mono hS0.1.size)) ((hb1.block _ (lt_of_get hS0.2)).trans hS0.2)
      refine hK.out _ _ ?_ (fun hHeld => ?_)
      · exact hS1
      clear hK K
      try simp only [Act.put, List.setIfInBounds_toArray, List.set_cons_zero, List.set_cons_succ]
      generalize hV : V0.alloc (.cells #[.int .i64 X1.kind, .int .i64 X1.n, .slice a1 X1.kids.length c1] 24) = V1 at *
      clear hV
      refine wpAnyH_ready (rs := [10]) (by kernel_rfl) (by simp) ?_
      refine (AllReadyH.cons (o := o22_5_10) rfl (fun K hK => ?_) AllReadyH.nil)
      unfold o22_5_10
      go_simp
      have hn2 := heap_alloc_new V1 (.cells #[.slice (some ⟨lg, lo, none⟩) l.length c, .slice (some ⟨V0.heap.size, 0, none⟩) 1 1] 22)
      have hb2 : Below V1.heap.size V1 (V1.alloc (.cells #[.slice (some ⟨lg, lo, none⟩) l.length c, .slice (some ⟨V0.heap.size, 0, none⟩) 1 1] 22)) := (Below.refl _ V1).alloc (Nat.le_refl _) _
      have hS2 := And.intro (hS1.1.trans (hb2.mono hS1.1.size)) ((hb2.block _ (lt_of_get hS1.2)).trans hS1.2)
      have hn1 := (hb2.block _ (lt_of_get hn1)).trans hn1
      refine hK.out _ _ ?_ (fun hHeld => ?_)
      · exact hS2
      clear hK K
      try simp only [Act.put, List.setIfInBounds_toArray, List.set_cons_zero, List.set_cons_succ]
      generalize hV : V1.alloc (.cells #[.slice (some ⟨lg, lo, none⟩) l.length c, .slice (some ⟨V0.heap.size, 0, none⟩) 1 1] 22) = V2 at *
      clear hV
      refine wpAnyH_ready (rs := [11]) (by kernel_rfl) (by simp) ?_
      refine (AllReadyH.cons (o := o22_5_11) rfl (fun K hK => ?_) AllReadyH.nil)
      unfold o22_5_11
      go_simp
      (with_reducible refine (joinq2 V1.heap.size l [X1] fl HJN.out V2 hn2 (HL.out.below hS2.1) (lsq_one (HX1.out.below hS2.1) hn1) HFL.out).mono ?_)
      rintro e3 V3 ⟨aj, cj, rfl, hT3, hb3⟩
      dsimp only
      have hS3 := And.intro (hS2.1.trans (hb3.mono hS2.1.size)) ((hb3.block _ (lt_of_get hS2.2)).trans hS2.2)
      refine hK.out _ _ ?_ (fun hHeld => ?_)
      · exact hS3
      clear hK K
      try simp only [Act.put, List.setIfInBounds_toArray, List.set_cons_zero, List.set_cons_succ]
      refine wpAnyH_ready (rs := [16]) (by kernel_rfl) (by simp) ?_
      refine (AllReadyH.cons (o := o22_5_16) rfl (fun K hK => ?_) AllReadyH.nil)
      unfold o22_5_16
      go_simp
      have KQ := IH.out _ HLT.out _ _ fl aj cj X0 a0 c0 V3 false (Nat.le_refl _) hT3 (HX0.out.below hS3.1) HGF.out HGX.out HNE.out HRV.out
      unfold vty at KQ
      (with_reducible refine KQ.mono ?_)
      clear KQ
      rintro e4 V4 ⟨rfl, hb4⟩
      dsimp only
      have hS4 := And.intro (hS3.1.trans (hb4.mono hS3.1.size)) ((hb4.block _ (lt_of_get hS3.2)).trans hS3.2)
      refine hK.out _ _ ?_ (fun hHeld => ?_)
      · exact hS4
      clear hK K
      try simp only [Act.put, List.setIfInBounds_toArray, List.set_cons_zero, List.set_cons_succ]
      refine tk (v := ?_) 17 o22_5_17 (by rfl) ?_ ?_
      case refine_2 => unfold o22_5_17; intro w hSw; obtain ⟨p0, p2, q0, q1, q2, q3, q4, q5⟩ := HCE.out _ hSw; go_simp; (try with_reducible rfl)
      simp only [o22_5_17, Act.put, List.setIfInBounds_toArray, List.set_cons_zero, List.set_cons_succ]
      refine tk (v := ?_) 18 o22_5_18 (by rfl) ?_ ?_
      case refine_2 => unfold o22_5_18; intro w hSw; obtain ⟨p0, p2, q0, q1, q2, q3, q4, q5⟩ := HCE.out _ hSw; go_simp; (try with_reducible rfl)
      simp only [o22_5_18, Act.put, List.setIfInBounds_toArray, List.set_cons_zero, List.set_cons_succ]
      refine tk (v := ?_) 19 o22_5_19 (by rfl) ?_ ?_
      case refine_2 => unfold o22_5_19; intro w hSw; obtain ⟨p0, p2, q0, q1, q2, q3, q4, q5⟩ := HCE.out _ hSw; go_simp; (try with_reducible rfl)
      simp only [o22_5_19, Act.put, List.setIfInBounds_toArray, List.set_cons_zero, List.set_cons_succ]
      refine tk (v := ?_) 20 o22_5_20 (by rfl) ?_ ?_
      case refine_2 => unfold o22_5_20; intro w hSw; obtain ⟨p0, p2, q0, q1, q2, q3, q4, q5⟩ := HCE.out _ hSw; go_simp; (try with_reducible rfl)
      simp only [o22_5_20, Act.put, List.setIfInBounds_toArray, List.set_cons_zero, List.set_cons_succ]
      refine tk (v := ?_) 21 o22_5_21 (by rfl) ?_ ?_
      case refine_2 => unfold o22_5_21; intro w hSw; obtain ⟨p0, p2, q0, q1, q2, q3, q4, q5⟩ := HCE.out _ hSw; go_simp; (try with_reducible rfl)
      simp only [o22_5_21, Act.put, List.setIfInBounds_toArray, List.set_cons_zero, List.set_cons_succ]
      refine tk (v := ?_) 22 o22_5_22 (by rfl) ?_ ?_
      case refine_2 => unfold o22_5_22; intro w hSw; obtain ⟨p0, p2, q0, q1, q2, q3, q4, q5⟩ := HCE.out _ hSw; go_simp; (try with_reducible rfl)
      simp only [o22_5_22, Act.put, List.setIfInBounds_toArray, List.set_cons_zero, List.set_cons_succ]
      refine tks 23 o22_5_23 (by rfl) ?_
      simp only [o22_5_23, Act.put, List.setIfInBounds_toArray, List.set_cons_zero, List.set_cons_succ]
      refine tks 24 o22_5_24 (by rfl) ?_
      simp only [o22_5_24, Act.put, List.setIfInBounds_toArray, List.set_cons_zero, List.set_cons_succ]
      refine tks 25 o22_5_25 (by rfl) ?_
      simp only [o22_5_25, Act.put, List.setIfInBounds_toArray, List.set_cons_zero, List.set_cons_succ]
      refine tks 26 o22_5_26 (by rfl) ?_
      simp only [o22_5_26, Act.put, List.setIfInBounds_toArray, List.set_cons_zero, List.set_cons_succ]
      refine tks 27 o22_5_27 (by rfl) ?_
      simp only [o22_5_27, Act.put, List.setIfInBounds_toArray, List.set_cons_zero, List.set_cons_succ]
      refine tks 28 o22_5_28 (by rfl) ?_
      simp only [o22_5_28, Act.put, List.setIfInBounds_toArray, List.set_cons_zero, List.set_cons_succ]
      refine tks 29 o22_5_29 (by rfl) ?_
      simp only [o22_5_29, Act.put, List.setIfInBounds_toArray, List.set_cons_zero, List.set_cons_succ]
      refine tks 30 o22_5_30 (by rfl) ?_
      simp only [o22_5_30, Act.put, List.setIfInBounds_toArray, List.set_cons_zero, List.set_cons_succ]
      refine tks 31 o22_5_31 (by rfl) ?_
      simp only [o22_5_31, Act.put, List.setIfInBounds_toArray, List.set_cons_zero, List.set_cons_succ]
      refine tks 32 o22_5_32 (by rfl) ?_
      simp only [o22_5_32, Act.put, List.setIfInBounds_toArray, List.set_cons_zero, List.set_cons_succ]
      refine tks 33 o22_5_33 (by rfl) ?_
      simp only [o22_5_33, Act.put, List.setIfInBounds_toArray, List.set_cons_zero, List.set_cons_succ]
      refine tks 34 o22_5_34 (by rfl) ?_
      simp only [o22_5_34, Act.put, List.setIfInBounds_toArray, List.set_cons_zero, List.set_cons_succ]
      refine tks 35 o22_5_35 (by rfl) ?_
      simp only [o22_5_35, Act.put, List.setIfInBounds_toArray, List.set_cons_zero, List.set_cons_succ]
      refine tk (v := ?_) 36 o22_5_36 (by rfl) ?_ ?_
      case refine_2 => unfold o22_5_36; intro w hSw; obtain ⟨p0, p2, q0, q1, q2, q3, q4, q5⟩ := HCE.out _ hSw; go_simp; (try with_reducible rfl)
      simp only [o22_5_36, Act.put, List.setIfInBounds_toArray, List.set_cons_zero, List.set_cons_succ]
      refine tk (v := ?_) 37 o22_5_37 (by rfl) ?_ ?_
      case refine_2 => unfold o22_5_37; intro w hSw; obtain ⟨p0, p2, q0, q1, q2, q3, q4, q5⟩ := HCE.out _ hSw; go_simp; (try with_reducible rfl)
      simp only [o22_5_37, Act.put, List.setIfInBounds_toArray, List.set_cons_zero, List.set_cons_succ]
      refine wpAnyH_done (by kernel_rfl) ?_ _
      exact NoPanic.normal (hQ _ _ _ _ _ _ _ _ _ _ _ _ _ _ _ _ _ _ _ _ _ _ _ _ _ _ _ _ _ _ _ _ _ _ _ _ _ _ hS4)
  · have HGO : Hid (g = un X0 X1) := hgo
    have hgb2 : (g.kind == 2) = false := by rw [hgo]; rfl
    have hgb3 : (g.kind == 3) = true := by rw [hgo]; rfl
    have hG2 : TyQ w dg (un X0 X1) ag cg := hgo ▸ HG.out
    have hgl0 : 0 < g.kids.length := by rw [hgo]; simp [un]
    have hgl1 : 1 < g.kids.length := by rw [hgo]; simp [un]
    have hgl0' : (0 : Int) < (g.kids.length : Int) := by omega
    have hgl1' : (1 : Int) < (g.kids.length : Int) := by omega
    obtain ⟨d', rfl⟩ := hG2.pos
    obtain ⟨gg, go_, a0, c0, rfl, hgg, y0, y1, y2, hx⟩ := hG2.kid (j := 0) (by simp [un])
    obtain ⟨gg2, go2, a1, c1, ef, hgg2, y3, y4, y5, hy⟩ := hG2.kid (j := 1) (by simp [un])
    simp only [Option.some.injEq, Addr.mk.injEq, and_true] at ef
    obtain ⟨rfl, rfl⟩ := ef
    simp only [un, List.getElem_cons_zero, List.getElem_cons_succ, Nat.zero_mul, Nat.add_zero, Nat.one_mul] at y0 y1 y2 y3 y4 y5 hx hy
    have HX0 : Hid (TyQ w d' X0 a0 c0) := hx
    have HX1 : Hid (TyQ w d' X1 a1 c1) := hy
    obtain ⟨fl, hfl⟩ : ∃ fl, [X0] ++ l = fl := ⟨_, rfl⟩
    have HJN : Hid ([X0] ++ l = fl) := hfl
    have hsum : szs fl + sz X1 < M := by
      have h1 := HSZ.out
      rw [hgo, sz_un] at h1
      rw [← hfl, szs_app, szs_cons, szs_nil]
      omega
    have HLT : Hid (szs fl + sz X1 < M) := hsum
    have HFL : Hid (fl.length ≤ 1000) := by have := szs_len fl; have := HM.out; show fl.length ≤ 1000; omega
    have HGF : Hid (∀ t ∈ fl, Gp t) := fun t ht => by
      rw [← hfl] at ht
      simp only [List.mem_append, List.mem_cons, List.not_mem_nil, or_false] at ht
      rcases ht with rfl | ht
      · exact g0
      · exact HGL.out t ht
    have HGX : Hid (Gp X1) := g1
    have HNE : Hid (fl ≠ []) := by show fl ≠ []; rw [← hfl]; simp
    have HRV0 : r5 = true ↔ E fl X1 := by
      rw [H5.out, ← hfl]
      unfold Qg
      rw [hgo]
      constructor
      · rintro (⟨x, y, e, h⟩ | ⟨y, x, e, h⟩)
        · exact (ov_un e.symm).elim
        · obtain ⟨rfl, rfl⟩ := un_inj e; exact h
      · intro h
        exact .inr ⟨X0, X1, rfl, h⟩
    have HRV : Hid (r5 = true ↔ E fl X1) := HRV0
    clear HRV0 hsum hfl hgo hG2 hx hy hgg2 g0 g1
    cases r5 with
    | true =>
      have HCE : Hid _ := fun (W : World) (hSw : Below w.heap.size w W ∧ W.heap[w.heap.size]? = some (.cells #[.int .i64 g.kind, .int .i64 g.n, .slice (some ⟨gg, go_, none⟩) g.kids.length cg] 24 (0, 0))) => (And.intro (cell_of_row _ _ 0 _ _ _ hSw.2) (And.intro (cell_of_row _ _ 2 _ _ _ hSw.2) (And.intro ((hSw.1.cell (p := ⟨gg, _, none⟩) hgg).trans y0) (And.intro ((hSw.1.cell (p := ⟨gg, _, none⟩) hgg).trans y1) (And.intro ((hSw.1.cell (p := ⟨gg, _, none⟩) hgg).trans y2) (And.intro ((hSw.1.cell (p := ⟨gg, _, none⟩) hgg).trans y3) (And.intro ((hSw.1.cell (p := ⟨gg, _, none⟩) hgg).trans y4) ((hSw.1.cell (p := ⟨gg, _, none⟩) hgg).trans y5))))))))
      refine wp_region_held_drew (S := fun W => Below w.heap.size w W ∧ W.heap[w.heap.size]? = some (.cells #[.int .i64 g.kind, .int .i64 g.n, .slice (some ⟨gg, go_, none⟩) g.kids.length cg] 24 (0, 0))) (by kernel_rfl) (by exact ⟨below_drewN hVb2 1, x2⟩) (fun hHeld => ?_)
      have hS0 := hHeld
      generalize hV : wq.drew = V0 at *
      clear hV
      refine tk (v := ?_) 0 o22_5_0 (by rfl) ?_ ?_
      case refine_2 => unfold o22_5_0; intro w hSw; obtain ⟨p0, p2, q0, q1, q2, q3, q4, q5⟩ := HCE.out _ hSw; go_simp; (try with_reducible rfl)
      simp only [o22_5_0, Act.put, List.setIfInBounds_toArray, List.set_cons_zero, List.set_cons_succ]
      refine tk (v := ?_) 1 o22_5_1 (by rfl) ?_ ?_
      case refine_2 => unfold o22_5_1; intro w hSw; obtain ⟨p0, p2, q0, q1, q2, q3, q4, q5⟩ := HCE.out _ hSw; go_simp; (try with_reducible rfl)
      simp only [o22_5_1, Act.put, List.setIfInBounds_toArray, List.set_cons_zero, List.set_cons_succ]
      refine tk (v := ?_) 2 o22_5_2 (by rfl) ?_ ?_
      case refine_2 => unfold o22_5_2; intro w hSw; obtain ⟨p0, p2, q0, q1, q2, q3, q4, q5⟩ := HCE.out _ hSw; go_simp; (try with_reducible rfl)
      simp only [o22_5_2, Act.put, List.setIfInBounds_toArray, List.set_cons_zero, List.set_cons_succ]
      refine tk (v := ?_) 3 o22_5_3 (by rfl) ?_ ?_
      case refine_2 => unfold o22_5_3; intro w hSw; obtain ⟨p0, p2, q0, q1, q2, q3, q4, q5⟩ := HCE.out _ hSw; go_simp; (try with_reducible rfl)
      simp only [o22_5_3, Act.put, List.setIfInBounds_toArray, List.set_cons_zero, List.set_cons_succ]
      refine tks 4 o22_5_4 (by rfl) ?_
      simp only [o22_5_4, Act.put, List.setIfInBounds_toArray, List.set_cons_zero, List.set_cons_succ]
      refine tks 5 o22_5_5 (by rfl) ?_
      simp only [o22_5_5, Act.put, List.setIfInBounds_toArray, List.set_cons_zero, List.set_cons_succ]
      refine tks 6 o22_5_6 (by rfl) ?_
      simp only [o22_5_6, Act.put, List.setIfInBounds_toArray, List.set_cons_zero, List.set_cons_succ]
      refine tks 7 o22_5_7 (by rfl) ?_
      simp only [o22_5_7, Act.put, List.setIfInBounds_toArray, List.set_cons_zero, List.set_cons_succ]
      refine tks 8 o22_5_8 (by rfl) ?_
      simp only [o22_5_8, Act.put, List.setIfInBounds_toArray, List.set_cons_zero, List.set_cons_succ]
      refine tks 9 o22_5_9 (by rfl) ?_
      simp only [o22_5_9, Act.put, List.setIfInBounds_toArray, List.set_cons_zero, List.set_cons_succ]
      refine tks 10 o22_5_10 (by rfl) ?_
      simp only [o22_5_10, Act.put, List.setIfInBounds_toArray, List.set_cons_zero, List.set_cons_succ]
      refine tks 11 o22_5_11 (by rfl) ?_
      simp only [o22_5_11, Act.put, List.setIfInBounds_toArray, List.set_cons_zero, List.set_cons_succ]
      refine tks 12 o22_5_12 (by rfl) ?_
      simp only [o22_5_12, Act.put, List.setIfInBounds_toArray, List.set_cons_zero, List.set_cons_succ]
      refine tks 13 o22_5_13 (by rfl) ?_
      simp only [o22_5_13, Act.put, List.setIfInBounds_toArray, List.set_cons_zero, List.set_cons_succ]
      refine tks 14 o22_5_14 (by rfl) ?_
      simp only [o22_5_14, Act.put, List.setIfInBounds_toArray, List.set_cons_zero, List.set_cons_succ]
      refine tks 15 o22_5_15 (by rfl) ?_
      simp only [o22_5_15, Act.put, List.setIfInBounds_toArray, List.set_cons_zero, List.set_cons_succ]
      refine tks 16 o22_5_16 (by rfl) ?_
      simp only [o22_5_16, Act.put, List.setIfInBounds_toArray, List.set_cons_zero, List.set_cons_succ]
      refine tk (v := ?_) 17 o22_5_17 (by rfl) ?_ ?_
      case refine_2 => unfold o22_5_17; intro w hSw; obtain ⟨p0, p2, q0, q1, q2, q3, q4, q5⟩ := HCE.out _ hSw; go_simp; (try with_reducible rfl)
      simp only [o22_5_17, Act.put, List.setIfInBounds_toArray, List.set_cons_zero, List.set_cons_succ]
      refine tk (v := ?_) 18 o22_5_18 (by rfl) ?_ ?_
      case refine_2 => unfold o22_5_18; intro w hSw; obtain ⟨p0, p2, q0, q1, q2, q3, q4, q5⟩ := HCE.out _ hSw; go_simp; (try with_reducible rfl)
      simp only [o22_5_18, Act.put, List.setIfInBounds_toArray, List.set_cons_zero, List.set_cons_succ]
      refine tk (v := ?_) 19 o22_5_19 (by rfl) ?_ ?_
      case refine_2 => unfold o22_5_19; intro w hSw; obtain ⟨p0, p2, q0, q1, q2, q3, q4, q5⟩ := HCE.out _ hSw; go_simp; (try with_reducible rfl)
      simp only [o22_5_19, Act.put, List.setIfInBounds_toArray, List.set_cons_zero, List.set_cons_succ]
      refine tk (v := ?_) 20 o22_5_20 (by rfl) ?_ ?_
      case refine_2 => unfold o22_5_20; intro w hSw; obtain ⟨p0, p2, q0, q1, q2, q3, q4, q5⟩ := HCE.out _ hSw; go_simp; (try with_reducible rfl)
      simp only [o22_5_20, Act.put, List.setIfInBounds_toArray, List.set_cons_zero, List.set_cons_succ]
      refine tk (v := ?_) 21 o22_5_21 (by rfl) ?_ ?_
      case refine_2 => unfold o22_5_21; intro w hSw; obtain ⟨p0, p2, q0, q1, q2, q3, q4, q5⟩ := HCE.out _ hSw; go_simp; (try with_reducible rfl)
      simp only [o22_5_21, Act.put, List.setIfInBounds_toArray, List.set_cons_zero, List.set_cons_succ]
      refine tk (v := ?_) 22 o22_5_22 (by rfl) ?_ ?_
      case refine_2 => unfold o22_5_22; intro w hSw; obtain ⟨p0, p2, q0, q1, q2, q3, q4, q5⟩ := HCE.out _ hSw; go_simp; (try with_reducible rfl)
      simp only [o22_5_22, Act.put, List.setIfInBounds_toArray, List.set_cons_zero, List.set_cons_succ]
      refine tk (v := ?_) 23 o22_5_23 (by rfl) ?_ ?_
      case refine_2 => unfold o22_5_23; intro w hSw; obtain ⟨p0, p2, q0, q1, q2, q3, q4, q5⟩ := HCE.out _ hSw; go_simp; (try with_reducible rfl)
      simp only [o22_5_23, Act.put, List.setIfInBounds_toArray, List.set_cons_zero, List.set_cons_succ]
      refine tk (v := ?_) 24 o22_5_24 (by rfl) ?_ ?_
      case refine_2 => unfold o22_5_24; intro w hSw; obtain ⟨p0, p2, q0, q1, q2, q3, q4, q5⟩ := HCE.out _ hSw; go_simp; (try with_reducible rfl)
      simp only [o22_5_24, Act.put, List.setIfInBounds_toArray, List.set_cons_zero, List.set_cons_succ]
      refine tk (v := ?_) 25 o22_5_25 (by rfl) ?_ ?_
      case refine_2 => unfold o22_5_25; intro w hSw; obtain ⟨p0, p2, q0, q1, q2, q3, q4, q5⟩ := HCE.out _ hSw; go_simp; (try with_reducible rfl)
      simp only [o22_5_25, Act.put, List.setIfInBounds_toArray, List.set_cons_zero, List.set_cons_succ]
      refine tk (v := ?_) 26 o22_5_26 (by rfl) ?_ ?_
      case refine_2 => unfold o22_5_26; intro w hSw; obtain ⟨p0, p2, q0, q1, q2, q3, q4, q5⟩ := HCE.out _ hSw; go_simp; (try with_reducible rfl)
      simp only [o22_5_26, Act.put, List.setIfInBounds_toArray, List.set_cons_zero, List.set_cons_succ]
      refine tk (v := ?_) 28 o22_5_28 (by rfl) ?_ ?_
      case refine_2 => unfold o22_5_28; intro w hSw; obtain ⟨p0, p2, q0, q1, q2, q3, q4, q5⟩ := HCE.out _ hSw; go_simp; (try with_reducible rfl)
      simp only [o22_5_28, Act.put, List.setIfInBounds_toArray, List.set_cons_zero, List.set_cons_succ]
      refine tk (v := ?_) 31 o22_5_31 (by rfl) ?_ ?_
      case refine_2 => unfold o22_5_31; intro w hSw; obtain ⟨p0, p2, q0, q1, q2, q3, q4, q5⟩ := HCE.out _ hSw; go_simp; (try with_reducible rfl)
      simp only [o22_5_31, Act.put, List.setIfInBounds_toArray, List.set_cons_zero, List.set_cons_succ]
      refine tk (v := ?_) 32 o22_5_32 (by rfl) ?_ ?_
      case refine_2 => unfold o22_5_32; intro w hSw; obtain ⟨p0, p2, q0, q1, q2, q3, q4, q5⟩ := HCE.out _ hSw; go_simp; (try with_reducible rfl)
      simp only [o22_5_32, Act.put, List.setIfInBounds_toArray, List.set_cons_zero, List.set_cons_succ]
      refine tk (v := ?_) 33 o22_5_33 (by rfl) ?_ ?_
      case refine_2 => unfold o22_5_33; intro w hSw; obtain ⟨p0, p2, q0, q1, q2, q3, q4, q5⟩ := HCE.out _ hSw; go_simp; (try with_reducible rfl)
      simp only [o22_5_33, Act.put, List.setIfInBounds_toArray, List.set_cons_zero, List.set_cons_succ]
      refine tk (v := ?_) 34 o22_5_34 (by rfl) ?_ ?_
      case refine_2 => unfold o22_5_34; intro w hSw; obtain ⟨p0, p2, q0, q1, q2, q3, q4, q5⟩ := HCE.out _ hSw; go_simp; (try with_reducible rfl)
      simp only [o22_5_34, Act.put, List.setIfInBounds_toArray, List.set_cons_zero, List.set_cons_succ]
      refine wpAnyH_ready (rs := [27]) (by kernel_rfl) (by simp) ?_
      refine (AllReadyH.cons (o := o22_5_27) rfl (fun K hK => ?_) AllReadyH.nil)
      unfold o22_5_27
      go_simp
      have hn1 := heap_alloc_new V0 (.cells #[.int .i64 X0.kind, .int .i64 X0.n, .slice a0 X0.kids.length c0] 24)
      have hb1 : Below V0.heap.size V0 (V0.alloc (.cells #[.int .i64 X0.kind, .int .i64 X0.n, .slice a0 X0.kids.length c0] 24)) := (Below.refl _ V0).alloc (Nat.le_refl _) _
      have hS1 := And.intro (hS0.1.trans (hb1.mono hS0.1.size)) ((hb1.block _ (lt_of_get hS0.2)).trans hS0.2)
      refine hK.out _ _ ?_ (fun hHeld => ?_)
      · exact hS1
      clear hK K
      try simp only [Act.put, List.setIfInBounds_toArray, List.set_cons_zero, List.set_cons_succ]
      generalize hV : V0.alloc (.cells #[.int .i64 X0.kind, .int .i64 X0.n, .slice a0 X0.kids.length c0] 24) = V1 at *
      clear hV
      refine wpAnyH_ready (rs := [29]) (by kernel_rfl) (by simp) ?_
      refine (AllReadyH.cons (o := o22_5_29) rfl (fun K hK => ?_) AllReadyH.nil)
      unfold o22_5_29
      go_simp
      have hn2 := heap_alloc_new V1 (.cells #[.slice (some ⟨V0.heap.size, 0, none⟩) 1 1, .slice (some ⟨lg, lo, none⟩) l.length c] 22)
      have hb2 : Below V1.heap.size V1 (V1.alloc (.cells #[.slice (some ⟨V0.heap.size, 0, none⟩) 1 1, .slice (some ⟨lg, lo, none⟩) l.length c] 22)) := (Below.refl _ V1).alloc (Nat.le_refl _) _
      have hS2 := And.intro (hS1.1.trans (hb2.mono hS1.1.size)) ((hb2.block _ (lt_of_get hS1.2)).trans hS1.2)
      have hn1 := (hb2.block _ (lt_of_get hn1)).trans hn1
      refine hK.out _ _ ?_ (fun hHeld => ?_)
      · exact hS2
      clear hK K
      try simp only [Act.put, List.setIfInBounds_toArray, List.set_cons_zero, List.set_cons_succ]
      generalize hV : V1.alloc (.cells #[.slice (some ⟨V0.heap.size, 0, none⟩) 1 1, .slice (some ⟨lg, lo, none⟩) l.length c] 22) = V2 at *
      clear hV
      refine wpAnyH_ready (rs := [30]) (by kernel_rfl) (by simp) ?_
      refine (AllReadyH.cons (o := o22_5_30) rfl (fun K hK => ?_) AllReadyH.nil)
      unfold o22_5_30
      go_simp
      (with_reducible refine (joinq2 V1.heap.size [X0] l fl HJN.out V2 hn2 (lsq_one (HX0.out.below hS2.1) hn1) (HL.out.below hS2.1) HFL.out).mono ?_)
      rintro e3 V3 ⟨aj, cj, rfl, hT3, hb3⟩
      dsimp only
      have hS3 := And.intro (hS2.1.trans (hb3.mono hS2.1.size)) ((hb3.block _ (lt_of_get hS2.2)).trans hS2.2)
      refine hK.out _ _ ?_ (fun hHeld => ?_)
      · exact hS3
      clear hK K
      try simp only [Act.put, List.setIfInBounds_toArray, List.set_cons_zero, List.set_cons_succ]
      refine wpAnyH_ready (rs := [35]) (by kernel_rfl) (by simp) ?_
      refine (AllReadyH.cons (o := o22_5_35) rfl (fun K hK => ?_) AllReadyH.nil)
      unfold o22_5_35
      go_simp
      have KQ := IH.out _ HLT.out _ _ fl aj cj X1 a1 c1 V3 true (Nat.le_refl _) hT3 (HX1.out.below hS3.1) HGF.out HGX.out HNE.out HRV.out
      unfold vty at KQ
      (with_reducible refine KQ.mono ?_)
      clear KQ
      rintro e4 V4 ⟨rfl, hb4⟩
      dsimp only
      have hS4 := And.intro (hS3.1.trans (hb4.mono hS3.1.size)) ((hb4.block _ (lt_of_get hS3.2)).trans hS3.2)
      refine hK.out _ _ ?_ (fun hHeld => ?_)
      · exact hS4
      clear hK K
      try simp only [Act.put, List.setIfInBounds_toArray, List.set_cons_zero, List.set_cons_succ]
      refine tk (v := ?_) 36 o22_5_36 (by rfl) ?_ ?_
      case refine_2 => unfold o22_5_36; intro w hSw; obtain ⟨p0, p2, q0, q1, q2, q3, q4, q5⟩ := HCE.out _ hSw; go_simp; (try with_reducible rfl)
      simp only [o22_5_36, Act.put, List.setIfInBounds_toArray, List.set_cons_zero, List.set_cons_succ]
      refine tk (v := ?_) 37 o22_5_37 (by rfl) ?_ ?_
      case refine_2 => unfold o22_5_37; intro w hSw; obtain ⟨p0, p2, q0, q1, q2, q3, q4, q5⟩ := HCE.out _ hSw; go_simp; (try with_reducible rfl)
      simp only [o22_5_37, Act.put, List.setIfInBounds_toArray, List.set_cons_zero, List.set_cons_succ]
      refine wpAnyH_done (by kernel_rfl) ?_ _
      exact NoPanic.normal (hQ _ _ _ _ _ _ _ _ _ _ _ _ _ _ _ _ _ _ _ _ _ _ _ _ _ _ _ _ _ _ _ _ _ _ _ _ _ _ hS4)
    | false =>
      have HCE : Hid _ := fun (W : World) (hSw : Below w.heap.size w W ∧ W.heap[w.heap.size]? = some (.cells #[.int .i64 g.kind, .int .i64 g.n, .slice (some ⟨gg, go_, none⟩) g.kids.length cg] 24 (0, 0))) => (And.intro (cell_of_row _ _ 0 _ _ _ hSw.2) (And.intro (cell_of_row _ _ 2 _ _ _ hSw.2) (And.intro ((hSw.1.cell (p := ⟨gg, _, none⟩) hgg).trans y0) (And.intro ((hSw.1.cell (p := ⟨gg, _, none⟩) hgg).trans y1) (And.intro ((hSw.1.cell (p := ⟨gg, _, none⟩) hgg).trans y2) (And.intro ((hSw.1.cell (p := ⟨gg, _, none⟩) hgg).trans y3) (And.intro ((hSw.1.cell (p := ⟨gg, _, none⟩) hgg).trans y4) ((hSw.1.cell (p := ⟨gg, _, none⟩) hgg).trans y5))))))))
      refine wp_region_held_drew (S := fun W => Below w.heap.size w W ∧ W.heap[w.heap.size]? = some (.cells #[.int .i64 g.kind, .int .i64 g.n, .slice (some ⟨gg, go_, none⟩) g.kids.length cg] 24 (0, 0))) (by kernel_rfl) (by exact ⟨below_drewN hVb2 1, x2⟩) (fun hHeld => ?_)
      have hS0 := hHeld
      generalize hV : wq.drew = V0 at *
      clear hV
      refine tk (v := ?_) 0 o22_5_0 (by rfl) ?_ ?_
      case refine_2 => unfold o22_5_0; intro w hSw; obtain ⟨p0, p2, q0, q1, q2, q3, q4, q5⟩ := HCE.out _ hSw; go_simp; (try with_reducible rfl)
      simp only [o22_5_0, Act.put, List.setIfInBounds_toArray, List.set_cons_zero, List.set_cons_succ]
      refine tk (v := ?_) 1 o22_5_1 (by rfl) ?_ ?_
      case refine_2 => unfold o22_5_1; intro w hSw; obtain ⟨p0, p2, q0, q1, q2, q3, q4, q5⟩ := HCE.out _ hSw; go_simp; (try with_reducible rfl)
      simp only [o22_5_1, Act.put, List.setIfInBounds_toArray, List.set_cons_zero, List.set_cons_succ]
      refine tk (v := ?_) 2 o22_5_2 (by rfl) ?_ ?_
      case refine_2 => unfold o22_5_2; intro w hSw; obtain ⟨p0, p2, q0, q1, q2, q3, q4, q5⟩ := HCE.out _ hSw; go_simp; (try with_reducible rfl)
      simp only [o22_5_2, Act.put, List.setIfInBounds_toArray, List.set_cons_zero, List.set_cons_succ]
      refine tk (v := ?_) 3 o22_5_3 (by rfl) ?_ ?_
      case refine_2 => unfold o22_5_3; intro w hSw; obtain ⟨p0, p2, q0, q1, q2, q3, q4, q5⟩ := HCE.out _ hSw; go_simp; (try with_reducible rfl)
      simp only [o22_5_3, Act.put, List.setIfInBounds_toArray, List.set_cons_zero, List.set_cons_succ]
      refine tks 4 o22_5_4 (by rfl) ?_
      simp only [o22_5_4, Act.put, List.setIfInBounds_toArray, List.set_cons_zero, List.set_cons_succ]
      refine tks 5 o22_5_5 (by rfl) ?_
      simp only [o22_5_5, Act.put, List.setIfInBounds_toArray, List.set_cons_zero, List.set_cons_succ]
      refine tks 6 o22_5_6 (by rfl) ?_
      simp only [o22_5_6, Act.put, List.setIfInBounds_toArray, List.set_cons_zero, List.set_cons_succ]
      refine tks 7 o22_5_7 (by rfl) ?_
      simp only [o22_5_7, Act.put, List.setIfInBounds_toArray, List.set_cons_zero, List.set_cons_succ]
      refine tks 8 o22_5_8 (by rfl) ?_
      simp only [o22_5_8, Act.put, List.setIfInBounds_toArray, List.set_cons_zero, List.set_cons_succ]
      refine tks 9 o22_5_9 (by rfl) ?_
      simp only [o22_5_9, Act.put, List.setIfInBounds_toArray, List.set_cons_zero, List.set_cons_succ]
      refine tks 10 o22_5_10 (by rfl) ?_
      simp only [o22_5_10, Act.put, List.setIfInBounds_toArray, List.set_cons_zero, List.set_cons_succ]
      refine tks 11 o22_5_11 (by rfl) ?_
      simp only [o22_5_11, Act.put, List.setIfInBounds_toArray, List.set_cons_zero, List.set_cons_succ]
      refine tks 12 o22_5_12 (by rfl) ?_
      simp only [o22_5_12, Act.put, List.setIfInBounds_toArray, List.set_cons_zero, List.set_cons_succ]
      refine tks 13 o22_5_13 (by rfl) ?_
      simp only [o22_5_13, Act.put, List.setIfInBounds_toArray, List.set_cons_zero, List.set_cons_succ]
      refine tks 14 o22_5_14 (by rfl) ?_
      simp only [o22_5_14, Act.put, List.setIfInBounds_toArray, List.set_cons_zero, List.set_cons_succ]
      refine tks 15 o22_5_15 (by rfl) ?_
      simp only [o22_5_15, Act.put, List.setIfInBounds_toArray, List.set_cons_zero, List.set_cons_succ]
      refine tks 16 o22_5_16 (by rfl) ?_
      simp only [o22_5_16, Act.put, List.setIfInBounds_toArray, List.set_cons_zero, List.set_cons_succ]
      refine tk (v := ?_) 17 o22_5_17 (by rfl) ?_ ?_
      case refine_2 => unfold o22_5_17; intro w hSw; obtain ⟨p0, p2, q0, q1, q2, q3, q4, q5⟩ := HCE.out _ hSw; go_simp; (try with_reducible rfl)
      simp only [o22_5_17, Act.put, List.setIfInBounds_toArray, List.set_cons_zero, List.set_cons_succ]
      refine tk (v := ?_) 18 o22_5_18 (by rfl) ?_ ?_
      case refine_2 => unfold o22_5_18; intro w hSw; obtain ⟨p0, p2, q0, q1, q2, q3, q4, q5⟩ := HCE.out _ hSw; go_simp; (try with_reducible rfl)
      simp only [o22_5_18, Act.put, List.setIfInBounds_toArray, List.set_cons_zero, List.set_cons_succ]
      refine tk (v := ?_) 19 o22_5_19 (by rfl) ?_ ?_
      case refine_2 => unfold o22_5_19; intro w hSw; obtain ⟨p0, p2, q0, q1, q2, q3, q4, q5⟩ := HCE.out _ hSw; go_simp; (try with_reducible rfl)
      simp only [o22_5_19, Act.put, List.setIfInBounds_toArray, List.set_cons_zero, List.set_cons_succ]
      refine tk (v := ?_) 20 o22_5_20 (by rfl) ?_ ?_
      case refine_2 => unfold o22_5_20; intro w hSw; obtain ⟨p0, p2, q0, q1, q2, q3, q4, q5⟩ := HCE.out _ hSw; go_simp; (try with_reducible rfl)
      simp only [o22_5_20, Act.put, List.setIfInBounds_toArray, List.set_cons_zero, List.set_cons_succ]
      refine tk (v := ?_) 21 o22_5_21 (by rfl) ?_ ?_
      case refine_2 => unfold o22_5_21; intro w hSw; obtain ⟨p0, p2, q0, q1, q2, q3, q4, q5⟩ := HCE.out _ hSw; go_simp; (try with_reducible rfl)
      simp only [o22_5_21, Act.put, List.setIfInBounds_toArray, List.set_cons_zero, List.set_cons_succ]
      refine tk (v := ?_) 22 o22_5_22 (by rfl) ?_ ?_
      case refine_2 => unfold o22_5_22; intro w hSw; obtain ⟨p0, p2, q0, q1, q2, q3, q4, q5⟩ := HCE.out _ hSw; go_simp; (try with_reducible rfl)
      simp only [o22_5_22, Act.put, List.setIfInBounds_toArray, List.set_cons_zero, List.set_cons_succ]
      refine tk (v := ?_) 23 o22_5_23 (by rfl) ?_ ?_
      case refine_2 => unfold o22_5_23; intro w hSw; obtain ⟨p0, p2, q0, q1, q2, q3, q4, q5⟩ := HCE.out _ hSw; go_simp; (try with_reducible rfl)
      simp only [o22_5_23, Act.put, List.setIfInBounds_toArray, List.set_cons_zero, List.set_cons_succ]
      refine tk (v := ?_) 24 o22_5_24 (by rfl) ?_ ?_
      case refine_2 => unfold o22_5_24; intro w hSw; obtain ⟨p0, p2, q0, q1, q2, q3, q4, q5⟩ := HCE.out _ hSw; go_simp; (try with_reducible rfl)
      simp only [o22_5_24, Act.put, List.setIfInBounds_toArray, List.set_cons_zero, List.set_cons_succ]
      refine tk (v := ?_) 25 o22_5_25 (by rfl) ?_ ?_
      case refine_2 => unfold o22_5_25; intro w hSw; obtain ⟨p0, p2, q0, q1, q2, q3, q4, q5⟩ := HCE.out _ hSw; go_simp; (try with_reducible rfl)
      simp only [o22_5_25, Act.put, List.setIfInBounds_toArray, List.set_cons_zero, List.set_cons_succ]
      refine tk (v := ?_) 26 o22_5_26 (by rfl) ?_ ?_
      case refine_2 => unfold o22_5_26; intro w hSw; obtain ⟨p0, p2, q0, q1, q2, q3, q4, q5⟩ := HCE.out _ hSw; go_simp; (try with_reducible rfl)
      simp only [o22_5_26, Act.put, List.setIfInBounds_toArray, List.set_cons_zero, List.set_cons_succ]
      refine tk (v := ?_) 28 o22_5_28 (by rfl) ?_ ?_
      case refine_2 => unfold o22_5_28; intro w hSw; obtain ⟨p0, p2, q0, q1, q2, q3, q4, q5⟩ := HCE.out _ hSw; go_simp; (try with_reducible rfl)
      simp only [o22_5_28, Act.put, List.setIfInBounds_toArray, List.set_cons_zero, List.set_cons_succ]
      refine tk (v := ?_) 31 o22_5_31 (by rfl) ?_ ?_
      case refine_2 => unfold o22_5_31; intro w hSw; obtain ⟨p0, p2, q0, q1, q2, q3, q4, q5⟩ := HCE.out _ hSw; go_simp; (try with_reducible rfl)
      simp only [o22_5_31, Act.put, List.setIfInBounds_toArray, List.set_cons_zero, List.set_cons_succ]
      refine tk (v := ?_) 32 o22_5_32 (by rfl) ?_ ?_
      case refine_2 => unfold o22_5_32; intro w hSw; obtain ⟨p0, p2, q0, q1, q2, q3, q4, q5⟩ := HCE.out _ hSw; go_simp; (try with_reducible rfl)
      simp only [o22_5_32, Act.put, List.setIfInBounds_toArray, List.set_cons_zero, List.set_cons_succ]
      refine tk (v := ?_) 33 o22_5_33 (by rfl) ?_ ?_
      case refine_2 => unfold o22_5_33; intro w hSw; obtain ⟨p0, p2, q0, q1, q2, q3, q4, q5⟩ := HCE.out _ hSw; go_simp; (try with_reducible rfl)
      simp only [o22_5_33, Act.put, List.setIfInBounds_toArray, List.set_cons_zero, List.set_cons_succ]
      refine tk (v := ?_) 34 o22_5_34 (by rfl) ?_ ?_
      case refine_2 => unfold o22_5_34; intro w hSw; obtain ⟨p0, p2, q0, q1, q2, q3, q4, q5⟩ := HCE.out _ hSw; go_simp; (try with_reducible rfl)
      simp only [o22_5_34, Act.put, List.setIfInBounds_toArray, List.set_cons_zero, List.set_cons_succ]
      refine wpAnyH_ready (rs := [27]) (by kernel_rfl) (by simp) ?_
      refine (AllReadyH.cons (o := o22_5_27) rfl (fun K hK => ?_) AllReadyH.nil)
      unfold o22_5_27
      go_simp
      have hn1 := heap_alloc_new V0 (.cells #[.int .i64 X0.kind, .int .i64 X0.n, .slice a0 X0.kids.length c0] 24)
      have hb1 : Below V0.heap.size V0 (V0.alloc (.cells #[.int .i64 X0.kind, .int .i64 X0.n, .slice a0 X0.kids.length c0] 24)) := (Below.refl _ V0).alloc (Nat.le_refl _) _
      have hS1 := And.intro (hS0.1.trans (hb1.mono hS0.1.size)) ((hb1.block _ (lt_of_get hS0.2)).trans hS0.2)
      refine hK.out _ _ ?_ (fun hHeld => ?_)
      · exact hS1
      clear hK K
      try simp only [Act.put, List.setIfInBounds_toArray, List.set_cons_zero, List.set_cons_succ]
      generalize hV : V0.alloc (.cells #[.int .i64 X0.kind, .int .i64 X0.n, .slice a0 X0.kids.length c0] 24) = V1 at *
      clear hV
      refine wpAnyH_ready (rs := [29]) (by kernel_rfl) (by simp) ?_
      refine (AllReadyH.cons (o := o22_5_29) rfl (fun K hK => ?_) AllReadyH.nil)
      unfold o22_5_29
      go_simp
      have hn2 := heap_alloc_new V1 (.cells #[.slice (some ⟨V0.heap.size, 0, none⟩) 1 1, .slice (some ⟨lg, lo, none⟩) l.length c] 22)
      have hb2 : Below V1.heap.size V1 (V1.alloc (.cells #[.slice (some ⟨V0.heap.size, 0, none⟩) 1 1, .slice (some ⟨lg, lo, none⟩) l.length c] 22)) := (Below.refl _ V1).alloc (Nat.le_refl _) _
      have hS2 := And.intro (hS1.1.trans (hb2.mono hS1.1.size)) ((hb2.block _ (lt_of_get hS1.2)).trans hS1.2)
      have hn1 := (hb2.block _ (lt_of_get hn1)).trans hn1
      refine hK.out _ _ ?_ (fun hHeld => ?_)
      · exact hS2
      clear hK K
      try simp only [Act.put, List.setIfInBounds_toArray, List.set_cons_zero, List.set_cons_succ]
      generalize hV : V1.alloc (.cells #[.slice (some ⟨V0.heap.size, 0, none⟩) 1 1, .slice (some ⟨lg, lo, none⟩) l.length c] 22) = V2 at *
      clear hV
      refine wpAnyH_ready (rs := [30]) (by kernel_rfl) (by simp) ?_
      refine (AllReadyH.cons (o := o22_5_30) rfl (fun K hK => ?_) AllReadyH.nil)
      unfold o22_5_30
      go_simp
      (with_reducible refine (joinq2 V1.heap.size [X0] l fl HJN.out V2 hn2 (lsq_one (HX0.out.below hS2.1) hn1) (HL.out.below hS2.1) HFL.out).mono ?_)
      rintro e3 V3 ⟨aj, cj, rfl, hT3, hb3⟩
      dsimp only
      have hS3 := And.intro (hS2.1.trans (hb3.mono hS2.1.size)) ((hb3.block _ (lt_of_get hS2.2)).trans hS2.2)
      refine hK.out _ _ ?_ (fun hHeld => ?_)
      · exact hS3
      clear hK K
      try simp only [Act.put, List.setIfInBounds_toArray, List.set_cons_zero, List.set_cons_succ]
      refine wpAnyH_ready (rs := [35]) (by kernel_rfl) (by simp) ?_
      refine (AllReadyH.cons (o := o22_5_35) rfl (fun K hK => ?_) AllReadyH.nil)
      unfold o22_5_35
      go_simp
      have KQ := IH.out _ HLT.out _ _ fl aj cj X1 a1 c1 V3 false (Nat.le_refl _) hT3 (HX1.out.below hS3.1) HGF.out HGX.out HNE.out HRV.out
      unfold vty at KQ
      (with_reducible refine KQ.mono ?_)
      clear KQ
      rintro e4 V4 ⟨rfl, hb4⟩
      dsimp only
      have hS4 := And.intro (hS3.1.trans (hb4.mono hS3.1.size)) ((hb4.block _ (lt_of_get hS3.2)).trans hS3.2)
      refine hK.out _ _ ?_ (fun hHeld => ?_)
      · exact hS4
      clear hK K
      try simp only [Act.put, List.setIfInBounds_toArray, List.set_cons_zero, List.set_cons_succ]
      refine tk (v := ?_) 36 o22_5_36 (by rfl) ?_ ?_
      case refine_2 => unfold o22_5_36; intro w hSw; obtain ⟨p0, p2, q0, q1, q2, q3, q4, q5⟩ := HCE.out _ hSw; go_simp; (try with_reducible rfl)
      simp only [o22_5_36, Act.put, List.setIfInBounds_toArray, List.set_cons_zero, List.set_cons_succ]
      refine tk (v := ?_) 37 o22_5_37 (by rfl) ?_ ?_
      case refine_2 => unfold o22_5_37; intro w hSw; obtain ⟨p0, p2, q0, q1, q2, q3, q4, q5⟩ := HCE.out _ hSw; go_simp; (try with_reducible rfl)
      simp only [o22_5_37, Act.put, List.setIfInBounds_toArray, List.set_cons_zero, List.set_cons_succ]
      refine wpAnyH_done (by kernel_rfl) ?_ _
      exact NoPanic.normal (hQ _ _ _ _ _ _ _ _ _ _ _ _ _ _ _ _ _ _ _ _ _ _ _ _ _ _ _ _ _ _ _ _ _ _ _ _ _ _ hS4)
    
end Go.Proofs.Ytbmgkgoghgdbhaa.Te
