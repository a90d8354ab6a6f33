/- A region of the document's Proves. Condition: the sequent is small. -/
import Derived.Test.YtbmgkgoghgdbhaaVe
import Derived.Deep.RegionHeld3
namespace Go.Proofs.Ytbmgkgoghgdbhaa.Te
open Go.RowKit

def o22_3_0 : Oper := { dst := some 17, op := Op.move (Operand.tmp 0), type := 22, pos := "speech.go:265", after := #[], guard := none }
def o22_3_1 : Oper := { dst := some 18, op := Op.call { callee := Callee.builtin Builtin.len, args := #[Operand.tmp 17], argTypes := #[22] }, type := 3, pos := "speech.go:265", after := #[{ on := 0, ground := Ground.data }], guard := none }
def o22_3_2 : Oper := { dst := some 19, op := Op.binOp BinOp.eql 3 (Operand.tmp 18) (Operand.const (Value.int IntKind.i64 1)) 3, type := 4, pos := "speech.go:265", after := #[{ on := 1, ground := Ground.data }], guard := none }
def o22_3_3 : Oper := { dst := some 20, op := Op.move (Operand.tmp 19), type := 4, pos := "speech.go:265", after := #[{ on := 2, ground := Ground.data }], guard := none }
def o22_3_4 : Oper := { dst := some 21, op := Op.move (Operand.tmp 0), type := 22, pos := "speech.go:265", after := #[{ on := 3, ground := Ground.guard }], guard := some (3, true) }
def o22_3_5 : Oper := { dst := some 22, op := Op.indexAddr 22 (Operand.tmp 21) (Operand.const (Value.int IntKind.i64 0)), type := 0, pos := "speech.go:265", after := #[{ on := 4, ground := Ground.data }, { on := 3, ground := Ground.guard }], guard := some (3, true) }
def o22_3_6 : Oper := { dst := some 23, op := Op.load 24 (Operand.tmp 22), type := 24, pos := "speech.go:265", after := #[{ on := 5, ground := Ground.data }, { on := 3, ground := Ground.guard }], guard := some (3, true) }
def o22_3_7 : Oper := { dst := some 24, op := Op.load 24 (Operand.tmp 3), type := 24, pos := "speech.go:265", after := #[{ on := 3, ground := Ground.guard }], guard := some (3, true) }
def o22_3_8 : Oper := { dst := some 25, op := Op.call { callee := Callee.value (Operand.func 16), args := #[Operand.tmp 23, Operand.tmp 24], argTypes := #[24, 24] }, type := 4, pos := "speech.go:265", after := #[{ on := 6, ground := Ground.data }, { on := 7, ground := Ground.data }, { on := 3, ground := Ground.chain }, { on := 3, ground := Ground.guard }], guard := some (3, true) }
def o22_3_9 : Oper := { dst := some 26, op := Op.pick (Operand.tmp 20) (Operand.tmp 25) (Operand.const (Value.bool false)), type := 4, pos := "speech.go:265", after := #[{ on := 3, ground := Ground.data }, { on := 8, ground := Ground.data }], guard := none }
set_option maxRecDepth 100000 in
set_option maxHeartbeats 8000000 in
theorem o22r3 {M d dg : Nat} {l : List Ty} {lg lo c : Nat} {g : Ty} {ag : Option Addr} {cg : Nat} {w wq : World} {Q : Exit → Act → World → Prop} (HSZ : Hid (szs l + sz g ≤ M)) (HM : Hid (M ≤ 900)) (hlen : l.length ≤ 900) (hl0 : 0 < l.length) (hroom : l.length ≤ c) (hlg : lg < w.heap.size) (HL : Hid (LsQ w d l (some ⟨lg, lo, none⟩) c)) (HG : Hid (TyQ w dg g ag cg)) (HGL : Hid (∀ t ∈ l, Gp t)) (HGG : Hid (Gp g)) (IH : Hid (∀ M', M' < M → PvOk M')) (hVb2 : Below w.heap.size w wq) (x2 : wq.heap[w.heap.size]? = some (.cells #[.int .i64 g.kind, .int .i64 g.n, .slice ag g.kids.length cg] 24 (0, 0))) {r3 : Bool} (H3L : Hid (r3 = true ↔ l = [g])) {u1 u2 u4 u5 u6 u7 u8 u9 u10 u11 u12 u13 u14 u15 u16 u17 u18 u19 u20 u21 u22 u23 u24 u25 u26 u27 u28 u29 u30 u31 u32 u33 u34 u35 u36 u37 u38 u39 u40 u41 u42 u43 u44 u45 u46 u47 u48 u49 u50 u51 u52 u53 u54 u55 u56 u57 u58 u59 u60 u61 u62 u63 u64 u65 u66 u67 u68 u69 u70 u71 u72 u73 u74 u75 u76 u77 u78 u79 u80 u81 u82 u83 u84 u85 u86 u87 u88 u89 u90 u91 u92 u93 u94 u95 u96 u97 u98 u99 u100 u101 u102 u103 u104 u105 u106 u107 u108 u109 u110 u111 u112 u113 u114 u115 u116 u117 u118 u119 u120 u121 u122 u123 u124 u125 u126 u127 u128 u129 u130 u131 u132 u133 u134 u135 u136 u137 u138 u139 u140 u141 u142 u143 u144 u145 u146 u147 u148 u149 u150 u151 : Value}
    (hQ : ∀ (v17 v18 v19 v20 v21 v22 v23 v24 v25 : Value) (wx : World), Below w.heap.size w wx ∧ wx.heap[w.heap.size]? = some (.cells #[.int .i64 g.kind, .int .i64 g.n, .slice ag g.kids.length cg] 24 (0, 0)) → Q .normal { tmps := #[.slice (some ⟨lg, lo, none⟩) l.length c, u1, u2, .pointer (some ⟨w.heap.size, 0, none⟩), u4, u5, u6, u7, u8, u9, u10, u11, u12, u13, u14, u15, u16, v17, v18, v19, v20, v21, v22, v23, v24, v25, .bool r3, u27, u28, u29, u30, u31, u32, u33, u34, u35, u36, u37, u38, u39, u40, u41, u42, u43, u44, u45, u46, u47, u48, u49, u50, u51, u52, u53, u54, u55, u56, u57, u58, u59, u60, u61, u62, u63, u64, u65, u66, u67, u68, u69, u70, u71, u72, u73, u74, u75, u76, u77, u78, u79, u80, u81, u82, u83, u84, u85, u86, u87, u88, u89, u90, u91, u92, u93, u94, u95, u96, u97, u98, u99, u100, u101, u102, u103, u104, u105, u106, u107, u108, u109, u110, u111, u112, u113, u114, u115, u116, u117, u118, u119, u120, u121, u122, u123, u124, u125, u126, u127, u128, u129, u130, u131, u132, u133, u134, u135, u136, u137, u138, u139, u140, u141, u142, u143, u144, u145, u146, u147, u148, u149, u150, u151], defers := [] } wx) :
    (Code.region 3 #[o22_3_0, o22_3_1, o22_3_2, o22_3_3, o22_3_4, o22_3_5, o22_3_6, o22_3_7, o22_3_8, o22_3_9] true).wp Try.prog Q { tmps := #[.slice (some ⟨lg, lo, none⟩) l.length c, u1, u2, .pointer (some ⟨w.heap.size, 0, none⟩), u4, u5, u6, u7, u8, u9, u10, u11, u12, u13, u14, u15, u16, u17, u18, u19, u20, u21, u22, u23, u24, u25, u26, u27, u28, u29, u30, u31, u32, u33, u34, u35, u36, u37, u38, u39, u40, u41, u42, u43, u44, u45, u46, u47, u48, u49, u50, u51, u52, u53, u54, u55, u56, u57, u58, u59, u60, u61, u62, u63, u64, u65, u66, u67, u68, u69, u70, u71, u72, u73, u74, u75, u76, u77, u78, u79, u80, u81, u82, u83, u84, u85, u86, u87, u88, u89, u90, u91, u92, u93, u94, u95, u96, u97, u98, u99, u100, u101, u102, u103, u104, u105, u106, u107, u108, u109, u110, u111, u112, u113, u114, u115, u116, u117, u118, u119, u120, u121, u122, u123, u124, u125, u126, u127, u128, u129, u130, u131, u132, u133, u134, u135, u136, u137, u138, u139, u140, u141, u142, u143, u144, u145, u146, u147, u148, u149, u150, u151], defers := [] } wq := by
  have hU_ : True := (fun _ _ _ _ _ _ _ _ _ _ _ _ _ => trivial) HSZ HM hlen hl0 hroom hlg HL HG HGL HGG IH hVb2 x2
  clear hU_
  refine wp_region_noPanic ?_
  by_cases hl1 : l.length = 1
  rotate_left
  · have hl1' : ¬ (l.length : Int) = 1 := by omega
    have hl1b : ((l.length : Int) == 1) = false := by simpa using hl1'
    have hrf : r3 = false := bool_false H3L.out (fun e => hl1 (by rw [e]; rfl))
    subst hrf
    refine wp_region_held_drew (S := fun W => Below w.heap.size w W ∧ W.heap[w.heap.size]? = some (.cells #[.int .i64 g.kind, .int .i64 g.n, .slice ag g.kids.length cg] 24 (0, 0))) (by kernel_rfl) (by exact ⟨below_drewN hVb2 1, x2⟩) (fun hHeld => ?_)
    have hS0 := hHeld
    generalize hV : wq.drew = V0 at *
    clear hV
    refine wpAnyH_take (i := 0) (oi := o22_3_0) (v := ?_) rfl (by kernel_rfl) (by kernel_rfl) (by kernel_rfl) (fun _ _ _ h => h) (Or.inl ⟨by rfl, ?_⟩) (by assumption) ?_
    case refine_2 => unfold o22_3_0; intro w hSw; (try dsimp only at hSw); go_simp; (try with_reducible rfl)
    simp only [o22_3_0, Act.put, List.setIfInBounds_toArray, List.set_cons_zero, List.set_cons_succ]
    refine wpAnyH_take (i := 1) (oi := o22_3_1) (v := ?_) rfl (by kernel_rfl) (by kernel_rfl) (by kernel_rfl) (fun _ _ _ h => h) (Or.inl ⟨by rfl, ?_⟩) (by assumption) ?_
    case refine_2 => unfold o22_3_1; intro w hSw; (try dsimp only at hSw); go_simp; (try with_reducible rfl)
    simp only [o22_3_1, Act.put, List.setIfInBounds_toArray, List.set_cons_zero, List.set_cons_succ]
    refine wpAnyH_take (i := 2) (oi := o22_3_2) (v := ?_) rfl (by kernel_rfl) (by kernel_rfl) (by kernel_rfl) (fun _ _ _ h => h) (Or.inl ⟨by rfl, ?_⟩) (by assumption) ?_
    case refine_2 => unfold o22_3_2; intro w hSw; (try dsimp only at hSw); go_simp; (try with_reducible rfl)
    simp only [o22_3_2, Act.put, List.setIfInBounds_toArray, List.set_cons_zero, List.set_cons_succ]
    refine wpAnyH_take (i := 3) (oi := o22_3_3) (v := ?_) rfl (by kernel_rfl) (by kernel_rfl) (by kernel_rfl) (fun _ _ _ h => h) (Or.inl ⟨by rfl, ?_⟩) (by assumption) ?_
    case refine_2 => unfold o22_3_3; intro w hSw; (try dsimp only at hSw); go_simp; (try with_reducible rfl)
    simp only [o22_3_3, Act.put, List.setIfInBounds_toArray, List.set_cons_zero, List.set_cons_succ]
    refine wpAnyH_take (i := 4) (oi := o22_3_4) (v := undef) rfl (by kernel_rfl) (by kernel_rfl) (by kernel_rfl) (fun _ _ _ h => h) (Or.inr ⟨by rfl, rfl⟩) (by assumption) ?_
    simp only [o22_3_4, Act.put, List.setIfInBounds_toArray, List.set_cons_zero, List.set_cons_succ]
    refine wpAnyH_take (i := 5) (oi := o22_3_5) (v := undef) rfl (by kernel_rfl) (by kernel_rfl) (by kernel_rfl) (fun _ _ _ h => h) (Or.inr ⟨by rfl, rfl⟩) (by assumption) ?_
    simp only [o22_3_5, Act.put, List.setIfInBounds_toArray, List.set_cons_zero, List.set_cons_succ]
    refine wpAnyH_take (i := 6) (oi := o22_3_6) (v := undef) rfl (by kernel_rfl) (by kernel_rfl) (by kernel_rfl) (fun _ _ _ h => h) (Or.inr ⟨by rfl, rfl⟩) (by assumption) ?_
    simp only [o22_3_6, Act.put, List.setIfInBounds_toArray, List.set_cons_zero, List.set_cons_succ]
    refine wpAnyH_take (i := 7) (oi := o22_3_7) (v := undef) rfl (by kernel_rfl) (by kernel_rfl) (by kernel_rfl) (fun _ _ _ h => h) (Or.inr ⟨by rfl, rfl⟩) (by assumption) ?_
    simp only [o22_3_7, Act.put, List.setIfInBounds_toArray, List.set_cons_zero, List.set_cons_succ]
    refine wpAnyH_take (i := 8) (oi := o22_3_8) (v := undef) rfl (by kernel_rfl) (by kernel_rfl) (by kernel_rfl) (fun _ _ _ h => h) (Or.inr ⟨by rfl, rfl⟩) (by assumption) ?_
    simp only [o22_3_8, Act.put, List.setIfInBounds_toArray, List.set_cons_zero, List.set_cons_succ]
    refine wpAnyH_take (i := 9) (oi := o22_3_9) (v := ?_) rfl (by kernel_rfl) (by kernel_rfl) (by kernel_rfl) (fun _ _ _ h => h) (Or.inl ⟨by rfl, ?_⟩) (by assumption) ?_
    case refine_2 => unfold o22_3_9; intro w hSw; (try dsimp only at hSw); go_simp; (try with_reducible rfl)
    simp only [o22_3_9, Act.put, List.setIfInBounds_toArray, List.set_cons_zero, List.set_cons_succ]
    refine wpAnyH_done (by kernel_rfl) ?_ _
    exact NoPanic.normal (hQ _ _ _ _ _ _ _ _ _ _ hS0)
  have hl1' : (l.length : Int) = 1 := by omega
  have hl1b : ((l.length : Int) == 1) = true := by simpa using hl1'
  have hl0i : (0 : Int) < (l.length : Int) := by omega
  have H3 : Hid (r3 = true ↔ l[0] = g) := by
    refine H3L.out.trans ?_
    obtain ⟨t, rfl⟩ := one_of hl1
    simp
  obtain ⟨lg', lo', a0, c0, ef, _, y0, y1, y2, hT⟩ := HL.out.kid (j := 0) hl0
  simp only [Option.some.injEq, Addr.mk.injEq, and_true] at ef
  obtain ⟨rfl, rfl⟩ := ef
  simp only [Nat.zero_mul, Nat.add_zero] at y0 y1 y2 hT
  have hT0 : Hid (TyQ w d l[0] a0 c0) := hT
  clear hT hl1 hl1'
  have HCE : Hid _ := fun (W : World) (hSw : Below w.heap.size w W ∧ W.heap[w.heap.size]? = some (.cells #[.int .i64 g.kind, .int .i64 g.n, .slice ag g.kids.length cg] 24 (0, 0))) => (And.intro (cell_of_row _ _ 0 _ _ _ hSw.2) (And.intro (cell_of_row _ _ 1 _ _ _ hSw.2) (And.intro (cell_of_row _ _ 2 _ _ _ hSw.2) (And.intro ((hSw.1.cell (p := ⟨lg, _, none⟩) hlg).trans y0) (And.intro ((hSw.1.cell (p := ⟨lg, _, none⟩) hlg).trans y1) ((hSw.1.cell (p := ⟨lg, _, none⟩) hlg).trans y2))))))
  refine wp_region_held_drew (S := fun W => Below w.heap.size w W ∧ W.heap[w.heap.size]? = some (.cells #[.int .i64 g.kind, .int .i64 g.n, .slice ag g.kids.length cg] 24 (0, 0))) (by kernel_rfl) (by exact ⟨below_drewN hVb2 1, x2⟩) (fun hHeld => ?_)
  have hS0 := hHeld
  generalize hV : wq.drew = V0 at *
  clear hV
  refine wpAnyH_take (i := 0) (oi := o22_3_0) (v := ?_) rfl (by kernel_rfl) (by kernel_rfl) (by kernel_rfl) (fun _ _ _ h => h) (Or.inl ⟨by rfl, ?_⟩) (by assumption) ?_
  case refine_2 => unfold o22_3_0; intro w hSw; (try dsimp only at hSw); obtain ⟨p0, p1, p2, q0, q1, q2⟩ := HCE.out _ hSw; go_simp; (try with_reducible rfl)
  simp only [o22_3_0, Act.put, List.setIfInBounds_toArray, List.set_cons_zero, List.set_cons_succ]
  refine wpAnyH_take (i := 1) (oi := o22_3_1) (v := ?_) rfl (by kernel_rfl) (by kernel_rfl) (by kernel_rfl) (fun _ _ _ h => h) (Or.inl ⟨by rfl, ?_⟩) (by assumption) ?_
  case refine_2 => unfold o22_3_1; intro w hSw; (try dsimp only at hSw); obtain ⟨p0, p1, p2, q0, q1, q2⟩ := HCE.out _ hSw; go_simp; (try with_reducible rfl)
  simp only [o22_3_1, Act.put, List.setIfInBounds_toArray, List.set_cons_zero, List.set_cons_succ]
  refine wpAnyH_take (i := 2) (oi := o22_3_2) (v := ?_) rfl (by kernel_rfl) (by kernel_rfl) (by kernel_rfl) (fun _ _ _ h => h) (Or.inl ⟨by rfl, ?_⟩) (by assumption) ?_
  case refine_2 => unfold o22_3_2; intro w hSw; (try dsimp only at hSw); obtain ⟨p0, p1, p2, q0, q1, q2⟩ := HCE.out _ hSw; go_simp; (try with_reducible rfl)
  simp only [o22_3_2, Act.put, List.setIfInBounds_toArray, List.set_cons_zero, List.set_cons_succ]
  refine wpAnyH_take (i := 3) (oi := o22_3_3) (v := ?_) rfl (by kernel_rfl) (by kernel_rfl) (by kernel_rfl) (fun _ _ _ h => h) (Or.inl ⟨by rfl, ?_⟩) (by assumption) ?_
  case refine_2 => unfold o22_3_3; intro w hSw; (try dsimp only at hSw); obtain ⟨p0, p1, p2, q0, q1, q2⟩ := HCE.out _ hSw; go_simp; (try with_reducible rfl)
  simp only [o22_3_3, Act.put, List.setIfInBounds_toArray, List.set_cons_zero, List.set_cons_succ]
  refine wpAnyH_take (i := 4) (oi := o22_3_4) (v := ?_) rfl (by kernel_rfl) (by kernel_rfl) (by kernel_rfl) (fun _ _ _ h => h) (Or.inl ⟨by rfl, ?_⟩) (by assumption) ?_
  case refine_2 => unfold o22_3_4; intro w hSw; (try dsimp only at hSw); obtain ⟨p0, p1, p2, q0, q1, q2⟩ := HCE.out _ hSw; go_simp; (try with_reducible rfl)
  simp only [o22_3_4, Act.put, List.setIfInBounds_toArray, List.set_cons_zero, List.set_cons_succ]
  refine wpAnyH_take (i := 5) (oi := o22_3_5) (v := ?_) rfl (by kernel_rfl) (by kernel_rfl) (by kernel_rfl) (fun _ _ _ h => h) (Or.inl ⟨by rfl, ?_⟩) (by assumption) ?_
  case refine_2 => unfold o22_3_5; intro w hSw; (try dsimp only at hSw); obtain ⟨p0, p1, p2, q0, q1, q2⟩ := HCE.out _ hSw; go_simp; (try with_reducible rfl)
  simp only [o22_3_5, Act.put, List.setIfInBounds_toArray, List.set_cons_zero, List.set_cons_succ]
  refine wpAnyH_take (i := 6) (oi := o22_3_6) (v := ?_) rfl (by kernel_rfl) (by kernel_rfl) (by kernel_rfl) (fun _ _ _ h => h) (Or.inl ⟨by rfl, ?_⟩) (by assumption) ?_
  case refine_2 => unfold o22_3_6; intro w hSw; (try dsimp only at hSw); obtain ⟨p0, p1, p2, q0, q1, q2⟩ := HCE.out _ hSw; go_simp; (try with_reducible rfl)
  simp only [o22_3_6, Act.put, List.setIfInBounds_toArray, List.set_cons_zero, List.set_cons_succ]
  refine wpAnyH_take (i := 7) (oi := o22_3_7) (v := ?_) rfl (by kernel_rfl) (by kernel_rfl) (by kernel_rfl) (fun _ _ _ h => h) (Or.inl ⟨by rfl, ?_⟩) (by assumption) ?_
  case refine_2 => unfold o22_3_7; intro w hSw; (try dsimp only at hSw); obtain ⟨p0, p1, p2, q0, q1, q2⟩ := HCE.out _ hSw; go_simp; (try with_reducible rfl)
  simp only [o22_3_7, Act.put, List.setIfInBounds_toArray, List.set_cons_zero, List.set_cons_succ]
  refine wpAnyH_ready (rs := [8]) (by kernel_rfl) (by simp) ?_
  refine (AllReadyH.cons (o := o22_3_8) rfl (fun K hK => ?_) AllReadyH.nil)
  unfold o22_3_8
  go_simp
  have KQ := same_doc _ l[0] a0 c0 _ g ag cg V0 r3 H3.out (hT0.out.at.below hS0.1) (HG.out.at.below hS0.1)
  unfold vty at KQ
  (with_reducible refine KQ.mono ?_)
  clear KQ
  rintro e1 V1 ⟨rfl, hb1⟩
  dsimp only
  have hS1 := And.intro (hS0.1.trans (hb1.mono hS0.1.size)) ((hb1.block _ (lt_of_get hS0.2)).trans hS0.2)
  refine hK.out _ _ ?_ (fun hHeld => ?_)
  · exact hS1
  clear hK K
  try simp only [Act.put, List.setIfInBounds_toArray, List.set_cons_zero, List.set_cons_succ]
  refine wpAnyH_take (i := 9) (oi := o22_3_9) (v := ?_) rfl (by kernel_rfl) (by kernel_rfl) (by kernel_rfl) (fun _ _ _ h => h) (Or.inl ⟨by rfl, ?_⟩) (by assumption) ?_
  case refine_2 => unfold o22_3_9; intro w hSw; (try dsimp only at hSw); obtain ⟨p0, p1, p2, q0, q1, q2⟩ := HCE.out _ hSw; go_simp; (try with_reducible rfl)
  simp only [o22_3_9, Act.put, List.setIfInBounds_toArray, List.set_cons_zero, List.set_cons_succ]
  refine wpAnyH_done (by kernel_rfl) ?_ _
  exact NoPanic.normal (hQ _ _ _ _ _ _ _ _ _ _ hS1)
    
end Go.Proofs.Ytbmgkgoghgdbhaa.Te
