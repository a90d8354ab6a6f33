/- Says' own search at one choice: the drawn region. Conditions: the words are right, the choice fits them. -/
import Derived.Test.YtbmgkgoghgdbhaaQg
import Derived.Test.YtbmgkgoghgdbhaaSuM
import Derived.Test.YtbmgkgoghgdbhaaTk
import Derived.Test.YtbmgkgoghgdbhaaRg
import Derived.Deep.RegionHeld3
namespace Go.Proofs.Ytbmgkgoghgdbhaa.Te
open Go.RowKit

def o26_5_0 : Oper := { dst := some 21, op := Op.move (Operand.tmp 0), type := 49, pos := "speech.go:79", after := #[], guard := none }
def o26_5_1 : Oper := { dst := some 22, op := Op.move (Operand.tmp 8), type := 50, pos := "speech.go:79", after := #[], guard := none }
def o26_5_2 : Oper := { dst := some 23, op := Op.call { callee := Callee.value (Operand.func 59), args := #[Operand.tmp 21, Operand.tmp 22], argTypes := #[49, 50] }, type := 22, pos := "speech.go:79", after := #[{ on := 0, ground := Ground.data }, { on := 1, ground := Ground.data }], guard := none }
def o26_5_3 : Oper := { dst := some 24, op := Op.load 24 (Operand.tmp 3), type := 24, pos := "speech.go:79", after := #[], guard := none }
def o26_5_4 : Oper := { dst := some 25, op := Op.build 79 #[(0, Operand.tmp 23), (1, Operand.tmp 24)], type := 79, pos := "speech.go:79", after := #[{ on := 2, ground := Ground.data }, { on := 3, ground := Ground.data }], guard := none }
def o26_5_5 : Oper := { dst := some 26, op := Op.call { callee := Callee.value (Operand.func 54), args := #[Operand.tmp 25], argTypes := #[79] }, type := 76, pos := "speech.go:79", after := #[{ on := 4, ground := Ground.data }, { on := 2, ground := Ground.chain }], guard := none }
def o26_5_6 : Oper := { dst := some 20, op := Op.move (Operand.tmp 26), type := 76, pos := "speech.go:79", after := #[{ on := 5, ground := Ground.data }], guard := none }
def o26_5_7 : Oper := { dst := some 27, op := Op.extract (Operand.tmp 20) 0, type := 37, pos := "speech.go:79", after := #[{ on := 6, ground := Ground.data }], guard := none }
def o26_5_8 : Oper := { dst := some 28, op := Op.extract (Operand.tmp 20) 1, type := 4, pos := "speech.go:79", after := #[{ on := 6, ground := Ground.data }, { on := 10, ground := Ground.gcOnly Departure.lateStores }], guard := none }
def o26_5_9 : Oper := { dst := some 9, op := Op.alloc 37, type := 0, pos := "speech.go:79", after := #[], guard := none }
def o26_5_10 : Oper := { dst := none, op := Op.store 37 (Operand.tmp 9) (Operand.tmp 27), type := 0, pos := "speech.go:79", after := #[{ on := 9, ground := Ground.data }, { on := 7, ground := Ground.data }, { on := 5, ground := Ground.chain }, { on := 0, ground := Ground.phase }, { on := 1, ground := Ground.phase }, { on := 2, ground := Ground.phase }, { on := 3, ground := Ground.phase }, { on := 4, ground := Ground.phase }, { on := 5, ground := Ground.phase }, { on := 6, ground := Ground.phase }, { on := 7, ground := Ground.phase }, { on := 8, ground := Ground.textOnly Departure.lateStores }, { on := 9, ground := Ground.phase }], guard := none }
def o26_5_11 : Oper := { dst := some 10, op := Op.assign (Operand.tmp 28), type := 4, pos := "speech.go:79", after := #[{ on := 8, ground := Ground.data }, { on := 10, ground := Ground.chain }, { on := 0, ground := Ground.phase }, { on := 1, ground := Ground.phase }, { on := 2, ground := Ground.phase }, { on := 3, ground := Ground.phase }, { on := 4, ground := Ground.phase }, { on := 5, ground := Ground.phase }, { on := 6, ground := Ground.phase }, { on := 7, ground := Ground.phase }, { on := 8, ground := Ground.phase }, { on := 9, ground := Ground.phase }, { on := 10, ground := Ground.phase }], guard := none }
set_option maxRecDepth 100000 in
set_option maxHeartbeats 4000000 in
theorem o26r5 {d dg : Nat} {ws : List (List Ty)} {ka : Option Addr} {kc : Nat} {cs : List Nat} {g : Ty} {ag : Option Addr} {cg gb cb : Nat} {wr : World} {r : Bool} {Q : Exit → Act → World → Prop} {u1 u2 u4 u5 u6 u7 u9 u10 u11 u12 u13 u14 u15 u16 u17 u18 u19 u20 u21 u22 u23 u24 u25 u26 u27 u28 u29 u30 u31 u32 u33 u34 : Value} (h0 : cwords ws g = 0) (hws : WsAt wr d ws ka) (hg : TyQ wr dg g ag cg) (hf : Fits ws cs) (hc : wr.heap[cb]? = some (.cells (nums cs) 3 (0, 0))) (hgb : wr.heap[gb]? = some (.cells #[.int .i64 g.kind, .int .i64 g.n, .slice ag g.kids.length cg] 24 (0, 0))) (hr : r = true ↔ E (pk ws cs) g)
    (hQ : ∀ (v9 v20 v21 v22 v23 v24 v25 v26 v27 v28 : Value) (wx : World), Below wr.heap.size wr wx → Q .normal { tmps := #[.slice ka ws.length kc, u1, u2, .pointer (some ⟨gb, 0, none⟩), u4, u5, u6, u7, .slice (some ⟨cb, 0, none⟩) ws.length ws.length, v9, .bool r, u11, u12, u13, u14, u15, u16, u17, u18, u19, v20, v21, v22, v23, v24, v25, v26, v27, v28, u29, u30, u31, u32, u33, u34], defers := [] } wx) :
    (Code.region 5 #[o26_5_0, o26_5_1, o26_5_2, o26_5_3, o26_5_4, o26_5_5, o26_5_6, o26_5_7, o26_5_8, o26_5_9, o26_5_10, o26_5_11] true).wp Try.prog Q { tmps := #[.slice ka ws.length kc, u1, u2, .pointer (some ⟨gb, 0, none⟩), u4, u5, u6, u7, .slice (some ⟨cb, 0, none⟩) ws.length ws.length, u9, u10, u11, u12, u13, u14, u15, u16, u17, u18, u19, u20, u21, u22, u23, u24, u25, u26, u27, u28, u29, u30, u31, u32, u33, u34], defers := [] } wr := by
  obtain ⟨h1, h6, h3, _⟩ := cwords_zero h0
  have hseq := cseq_pk h0 hf
  obtain ⟨hsm, gl, gg, hne⟩ := cseq_small hseq
  have hcl := lt_of_get hc
  have hgl := lt_of_get hgb
  have K59 : ∀ V, Below wr.heap.size wr V → _ := fun V hV => chosen_any ws ka kc cs cb V h6 (hws.below hV) hf ((hV.block _ hcl).trans hc)
  obtain ⟨hpl, _⟩ := pk_at ws cs hf
  obtain ⟨l, hl⟩ : ∃ l, pk ws cs = l := ⟨_, rfl⟩
  simp only [hl] at K59 hpl hr hseq hsm gl gg hne
  have HPL : Hid (l.length = ws.length) := hpl
  have K54 : ∀ V, Below wr.heap.size wr V → ∀ b2, LsQ V d l (some ⟨b2, 0, none⟩) ws.length → _ := fun V hV b2 hL => prove_any (d := max (d + 1) dg) (fun _ => True) l (some ⟨b2, 0, none⟩) ws.length g ag cg V r (by omega) (fun _ _ => trivial) ⟨(hL.at.within.keep (Q := fun _ => True) (Nat.le_refl _) (fun _ _ _ => ⟨trivial, rfl⟩)).upto (by omega), by omega⟩ (((hg.below hV).at.within.keep (Q := fun _ => True) (Nat.le_refl _) (fun _ _ _ => ⟨trivial, rfl⟩)).upto (by omega)) gl gg hne hr
  have k0 := cell_of_row _ _ 0 _ _ _ hgb
  have k1 := cell_of_row _ _ 1 _ _ _ hgb
  have k2 := cell_of_row _ _ 2 _ _ _ hgb
  clear hseq hsm gl gg hne hc hgb hl hws hf h0 h3 hg hr hpl
  refine wp_region_noPanic ?_
  have HCE : Hid _ := fun (W : World) (hSw : Below wr.heap.size wr W) => (And.intro ((hSw.cell (p := ⟨gb, 0, none⟩) hgl).trans k0) (And.intro ((hSw.cell (p := ⟨gb, 1, none⟩) hgl).trans k1) ((hSw.cell (p := ⟨gb, 2, none⟩) hgl).trans k2)))
  refine wp_region_held_drew (S := fun W => Below wr.heap.size wr W) (by kernel_rfl) (by exact below_drewN (Below.refl _ _) 1) (fun hHeld => ?_)
  have hS0 := hHeld
  generalize hV : wr.drew = V0 at *
  clear hV
  refine tk (v := ?_) 0 o26_5_0 (by rfl) ?_ ?_
  case refine_2 => unfold o26_5_0; intro w hSw; obtain ⟨p0, p1, p2⟩ := HCE.out _ hSw; go_simp; (try with_reducible rfl)
  simp only [o26_5_0, Act.put, List.setIfInBounds_toArray, List.set_cons_zero, List.set_cons_succ]
  refine tk (v := ?_) 1 o26_5_1 (by rfl) ?_ ?_
  case refine_2 => unfold o26_5_1; intro w hSw; obtain ⟨p0, p1, p2⟩ := HCE.out _ hSw; go_simp; (try with_reducible rfl)
  simp only [o26_5_1, Act.put, List.setIfInBounds_toArray, List.set_cons_zero, List.set_cons_succ]
  refine tk (v := ?_) 3 o26_5_3 (by rfl) ?_ ?_
  case refine_2 => unfold o26_5_3; intro w hSw; obtain ⟨p0, p1, p2⟩ := HCE.out _ hSw; go_simp; (try with_reducible rfl)
  simp only [o26_5_3, Act.put, List.setIfInBounds_toArray, List.set_cons_zero, List.set_cons_succ]
  refine wpAnyH_ready (rs := [2, 9]) (by kernel_rfl) (by simp) ?_
  refine (AllReadyH.cons (o := o26_5_2) rfl (fun K hK => ?_) (AllReadyH.cons (o := o26_5_9) rfl (fun K hK => ?_) AllReadyH.nil))
  · skip
    unfold o26_5_2
    go_simp
    (with_reducible refine (K59 V0 hS0).mono ?_)
    rintro e1 V1 ⟨rfl, hLS, hb⟩
    dsimp only
    have hS1 := hS0.trans (hb.mono hS0.size)
    obtain ⟨b2, hb2⟩ : ∃ b, V0.heap.size = b := ⟨_, rfl⟩
    rw [hb2] at hLS ⊢
    clear hb2
    refine hK.out _ _ ?_ (fun hHeld => ?_)
    · assumption
    clear hK K
    try simp only [Act.put, List.setIfInBounds_toArray, List.set_cons_zero, List.set_cons_succ]
    clear hb
    refine tk (v := ?_) 4 o26_5_4 (by rfl) ?_ ?_
    case refine_2 => unfold o26_5_4; intro w hSw; obtain ⟨p0, p1, p2⟩ := HCE.out _ hSw; go_simp; (try with_reducible rfl)
    simp only [o26_5_4, Act.put, List.setIfInBounds_toArray, List.set_cons_zero, List.set_cons_succ]
    refine wpAnyH_ready (rs := [5, 9]) (by kernel_rfl) (by simp) ?_
    refine (AllReadyH.cons (o := o26_5_5) rfl (fun K hK => ?_) (AllReadyH.cons (o := o26_5_9) rfl (fun K hK => ?_) AllReadyH.nil))
    · skip
      unfold o26_5_5
      go_simp
      have KQ := K54 V1 hS1 b2 hLS
      unfold vsq at KQ
      rw [HPL.out] at KQ
      (with_reducible refine KQ.mono ?_)
      clear KQ
      rintro e1 V2 ⟨p, x, rfl, hb, -⟩
      unfold vpf
      dsimp only
      have hS2 := hS1.trans (hb.mono hS1.size)
      refine hK.out _ _ ?_ (fun hHeld => ?_)
      · assumption
      clear hK K
      try simp only [Act.put, List.setIfInBounds_toArray, List.set_cons_zero, List.set_cons_succ]
      clear hb
      refine tk (v := ?_) 6 o26_5_6 (by rfl) ?_ ?_
      case refine_2 => unfold o26_5_6; intro w hSw; obtain ⟨p0, p1, p2⟩ := HCE.out _ hSw; go_simp; (try with_reducible rfl)
      simp only [o26_5_6, Act.put, List.setIfInBounds_toArray, List.set_cons_zero, List.set_cons_succ]
      refine tk (v := ?_) 7 o26_5_7 (by rfl) ?_ ?_
      case refine_2 => unfold o26_5_7; intro w hSw; obtain ⟨p0, p1, p2⟩ := HCE.out _ hSw; go_simp; (try with_reducible rfl)
      simp only [o26_5_7, Act.put, List.setIfInBounds_toArray, List.set_cons_zero, List.set_cons_succ]
      refine tk (v := ?_) 8 o26_5_8 (by rfl) ?_ ?_
      case refine_2 => unfold o26_5_8; intro w hSw; obtain ⟨p0, p1, p2⟩ := HCE.out _ hSw; go_simp; (try with_reducible rfl)
      simp only [o26_5_8, Act.put, List.setIfInBounds_toArray, List.set_cons_zero, List.set_cons_succ]
      refine wpAnyH_ready (rs := [9]) (by kernel_rfl) (by simp) ?_
      refine (AllReadyH.cons (o := o26_5_9) rfl (fun K hK => ?_) AllReadyH.nil)
      unfold o26_5_9
      go_simp
      have hb : Below V2.heap.size V2 (V2.alloc (.cells #[.int .i64 0, .slice none 0 0, .int .i64 0, .int .i64 0, .slice none 0 0, .int .i64 0, .int .i64 0, .slice none 0 0] 37)) := (Below.refl _ V2).alloc (Nat.le_refl _) _
      have hBX := heap_alloc_new V2 (.cells #[.int .i64 0, .slice none 0 0, .int .i64 0, .int .i64 0, .slice none 0 0, .int .i64 0, .int .i64 0, .slice none 0 0] 37)
      have hS3 := hS2.trans (hb.mono hS2.size)
      have hB9 : wr.heap.size ≤ V2.heap.size := hS2.size
      refine hK.out _ _ ?_ (fun hHeld => ?_)
      · assumption
      clear hK K
      try simp only [Act.put, List.setIfInBounds_toArray, List.set_cons_zero, List.set_cons_succ]
      generalize hV : V2.alloc (.cells #[.int .i64 0, .slice none 0 0, .int .i64 0, .int .i64 0, .slice none 0 0, .int .i64 0, .int .i64 0, .slice none 0 0] 37) = V3 at *
      clear hV hb
      generalize V2.heap.size = b9 at *
      refine wpAnyH_ready (rs := [10]) (by kernel_rfl) (by simp) ?_
      refine (AllReadyH.cons (o := o26_5_10) rfl (fun K hK => ?_) AllReadyH.nil)
      unfold o26_5_10
      have z0 := cell_of_row _ _ 0 _ _ _ hBX
      have f0 := frozen_of_row _ _ 0 _ 37 hBX
      have z1 := cell_of_row _ _ 1 _ _ _ hBX
      have f1 := frozen_of_row _ _ 1 _ 37 hBX
      have z2 := cell_of_row _ _ 2 _ _ _ hBX
      have f2 := frozen_of_row _ _ 2 _ 37 hBX
      have z3 := cell_of_row _ _ 3 _ _ _ hBX
      have f3 := frozen_of_row _ _ 3 _ 37 hBX
      have z4 := cell_of_row _ _ 4 _ _ _ hBX
      have f4 := frozen_of_row _ _ 4 _ 37 hBX
      have z5 := cell_of_row _ _ 5 _ _ _ hBX
      have f5 := frozen_of_row _ _ 5 _ 37 hBX
      have z6 := cell_of_row _ _ 6 _ _ _ hBX
      have f6 := frozen_of_row _ _ 6 _ 37 hBX
      have z7 := cell_of_row _ _ 7 _ _ _ hBX
      have f7 := frozen_of_row _ _ 7 _ 37 hBX
      go_simp
      have hS4 := below8 hS3 hB9 (.int .i64 p.step) (.slice x.la p.left.length x.lc) (.int .i64 p.goal.kind) (.int .i64 p.goal.n) (.slice x.ga p.goal.kids.length x.gc) (.int .i64 p.ix) (.int .i64 p.n) (.slice x.ka p.kids.length x.kc)
      refine hK.out _ _ ?_ (fun hHeld => ?_)
      · assumption
      clear hK K
      try simp only [Act.put, List.setIfInBounds_toArray, List.set_cons_zero, List.set_cons_succ]
      refine tk (v := ?_) 11 o26_5_11 (by rfl) ?_ ?_
      case refine_2 => unfold o26_5_11; intro w hSw; obtain ⟨p0, p1, p2⟩ := HCE.out _ hSw; go_simp; (try with_reducible rfl)
      simp only [o26_5_11, Act.put, List.setIfInBounds_toArray, List.set_cons_zero, List.set_cons_succ]
      refine wpAnyH_done (by kernel_rfl) ?_ _
      exact NoPanic.normal (hQ _ _ _ _ _ _ _ _ _ _ _ (by assumption))
    · skip
      unfold o26_5_9
      go_simp
      have hb : Below V1.heap.size V1 (V1.alloc (.cells #[.int .i64 0, .slice none 0 0, .int .i64 0, .int .i64 0, .slice none 0 0, .int .i64 0, .int .i64 0, .slice none 0 0] 37)) := (Below.refl _ V1).alloc (Nat.le_refl _) _
      have hBX := heap_alloc_new V1 (.cells #[.int .i64 0, .slice none 0 0, .int .i64 0, .int .i64 0, .slice none 0 0, .int .i64 0, .int .i64 0, .slice none 0 0] 37)
      have hS2 := hS1.trans (hb.mono hS1.size)
      have hB9 : wr.heap.size ≤ V1.heap.size := hS1.size
      have hLS := hLS.below hb
      refine hK.out _ _ ?_ (fun hHeld => ?_)
      · assumption
      clear hK K
      try simp only [Act.put, List.setIfInBounds_toArray, List.set_cons_zero, List.set_cons_succ]
      generalize hV : V1.alloc (.cells #[.int .i64 0, .slice none 0 0, .int .i64 0, .int .i64 0, .slice none 0 0, .int .i64 0, .int .i64 0, .slice none 0 0] 37) = V2 at *
      clear hV hb
      generalize V1.heap.size = b9 at *
      refine wpAnyH_ready (rs := [5]) (by kernel_rfl) (by simp) ?_
      refine (AllReadyH.cons (o := o26_5_5) rfl (fun K hK => ?_) AllReadyH.nil)
      unfold o26_5_5
      go_simp
      have KQ := K54 V2 hS2 b2 hLS
      unfold vsq at KQ
      rw [HPL.out] at KQ
      (with_reducible refine KQ.mono ?_)
      clear KQ
      rintro e1 V3 ⟨p, x, rfl, hb, -⟩
      unfold vpf
      dsimp only
      have hS3 := hS2.trans (hb.mono hS2.size)
      have hBX := (hb.block _ (lt_of_get hBX)).trans hBX
      refine hK.out _ _ ?_ (fun hHeld => ?_)
      · assumption
      clear hK K
      try simp only [Act.put, List.setIfInBounds_toArray, List.set_cons_zero, List.set_cons_succ]
      clear hb
      refine tk (v := ?_) 6 o26_5_6 (by rfl) ?_ ?_
      case refine_2 => unfold o26_5_6; intro w hSw; obtain ⟨p0, p1, p2⟩ := HCE.out _ hSw; go_simp; (try with_reducible rfl)
      simp only [o26_5_6, Act.put, List.setIfInBounds_toArray, List.set_cons_zero, List.set_cons_succ]
      refine tk (v := ?_) 7 o26_5_7 (by rfl) ?_ ?_
      case refine_2 => unfold o26_5_7; intro w hSw; obtain ⟨p0, p1, p2⟩ := HCE.out _ hSw; go_simp; (try with_reducible rfl)
      simp only [o26_5_7, Act.put, List.setIfInBounds_toArray, List.set_cons_zero, List.set_cons_succ]
      refine tk (v := ?_) 8 o26_5_8 (by rfl) ?_ ?_
      case refine_2 => unfold o26_5_8; intro w hSw; obtain ⟨p0, p1, p2⟩ := HCE.out _ hSw; go_simp; (try with_reducible rfl)
      simp only [o26_5_8, Act.put, List.setIfInBounds_toArray, List.set_cons_zero, List.set_cons_succ]
      refine wpAnyH_ready (rs := [10]) (by kernel_rfl) (by simp) ?_
      refine (AllReadyH.cons (o := o26_5_10) rfl (fun K hK => ?_) AllReadyH.nil)
      unfold o26_5_10
      have z0 := cell_of_row _ _ 0 _ _ _ hBX
      have f0 := frozen_of_row _ _ 0 _ 37 hBX
      have z1 := cell_of_row _ _ 1 _ _ _ hBX
      have f1 := frozen_of_row _ _ 1 _ 37 hBX
      have z2 := cell_of_row _ _ 2 _ _ _ hBX
      have f2 := frozen_of_row _ _ 2 _ 37 hBX
      have z3 := cell_of_row _ _ 3 _ _ _ hBX
      have f3 := frozen_of_row _ _ 3 _ 37 hBX
      have z4 := cell_of_row _ _ 4 _ _ _ hBX
      have f4 := frozen_of_row _ _ 4 _ 37 hBX
      have z5 := cell_of_row _ _ 5 _ _ _ hBX
      have f5 := frozen_of_row _ _ 5 _ 37 hBX
      have z6 := cell_of_row _ _ 6 _ _ _ hBX
      have f6 := frozen_of_row _ _ 6 _ 37 hBX
      have z7 := cell_of_row _ _ 7 _ _ _ hBX
      have f7 := frozen_of_row _ _ 7 _ 37 hBX
      go_simp
      have hS4 := below8 hS3 hB9 (.int .i64 p.step) (.slice x.la p.left.length x.lc) (.int .i64 p.goal.kind) (.int .i64 p.goal.n) (.slice x.ga p.goal.kids.length x.gc) (.int .i64 p.ix) (.int .i64 p.n) (.slice x.ka p.kids.length x.kc)
      refine hK.out _ _ ?_ (fun hHeld => ?_)
      · assumption
      clear hK K
      try simp only [Act.put, List.setIfInBounds_toArray, List.set_cons_zero, List.set_cons_succ]
      refine tk (v := ?_) 11 o26_5_11 (by rfl) ?_ ?_
      case refine_2 => unfold o26_5_11; intro w hSw; obtain ⟨p0, p1, p2⟩ := HCE.out _ hSw; go_simp; (try with_reducible rfl)
      simp only [o26_5_11, Act.put, List.setIfInBounds_toArray, List.set_cons_zero, List.set_cons_succ]
      refine wpAnyH_done (by kernel_rfl) ?_ _
      exact NoPanic.normal (hQ _ _ _ _ _ _ _ _ _ _ _ (by assumption))
  · skip
    unfold o26_5_9
    go_simp
    have hb : Below V0.heap.size V0 (V0.alloc (.cells #[.int .i64 0, .slice none 0 0, .int .i64 0, .int .i64 0, .slice none 0 0, .int .i64 0, .int .i64 0, .slice none 0 0] 37)) := (Below.refl _ V0).alloc (Nat.le_refl _) _
    have hBX := heap_alloc_new V0 (.cells #[.int .i64 0, .slice none 0 0, .int .i64 0, .int .i64 0, .slice none 0 0, .int .i64 0, .int .i64 0, .slice none 0 0] 37)
    have hS1 := hS0.trans (hb.mono hS0.size)
    have hB9 : wr.heap.size ≤ V0.heap.size := hS0.size
    refine hK.out _ _ ?_ (fun hHeld => ?_)
    · assumption
    clear hK K
    try simp only [Act.put, List.setIfInBounds_toArray, List.set_cons_zero, List.set_cons_succ]
    generalize hV : V0.alloc (.cells #[.int .i64 0, .slice none 0 0, .int .i64 0, .int .i64 0, .slice none 0 0, .int .i64 0, .int .i64 0, .slice none 0 0] 37) = V1 at *
    clear hV hb
    generalize V0.heap.size = b9 at *
    refine wpAnyH_ready (rs := [2]) (by kernel_rfl) (by simp) ?_
    refine (AllReadyH.cons (o := o26_5_2) rfl (fun K hK => ?_) AllReadyH.nil)
    unfold o26_5_2
    go_simp
    (with_reducible refine (K59 V1 hS1).mono ?_)
    rintro e1 V2 ⟨rfl, hLS, hb⟩
    dsimp only
    have hS2 := hS1.trans (hb.mono hS1.size)
    obtain ⟨b2, hb2⟩ : ∃ b, V1.heap.size = b := ⟨_, rfl⟩
    rw [hb2] at hLS ⊢
    clear hb2
    have hBX := (hb.block _ (lt_of_get hBX)).trans hBX
    refine hK.out _ _ ?_ (fun hHeld => ?_)
    · assumption
    clear hK K
    try simp only [Act.put, List.setIfInBounds_toArray, List.set_cons_zero, List.set_cons_succ]
    clear hb
    refine tk (v := ?_) 4 o26_5_4 (by rfl) ?_ ?_
    case refine_2 => unfold o26_5_4; intro w hSw; obtain ⟨p0, p1, p2⟩ := HCE.out _ hSw; go_simp; (try with_reducible rfl)
    simp only [o26_5_4, Act.put, List.setIfInBounds_toArray, List.set_cons_zero, List.set_cons_succ]
    refine wpAnyH_ready (rs := [5]) (by kernel_rfl) (by simp) ?_
    refine (AllReadyH.cons (o := o26_5_5) rfl (fun K hK => ?_) AllReadyH.nil)
    unfold o26_5_5
    go_simp
    have KQ := K54 V2 hS2 b2 hLS
    unfold vsq at KQ
    rw [HPL.out] at KQ
    (with_reducible refine KQ.mono ?_)
    clear KQ
    rintro e1 V3 ⟨p, x, rfl, hb, -⟩
    unfold vpf
    dsimp only
    have hS3 := hS2.trans (hb.mono hS2.size)
    have hBX := (hb.block _ (lt_of_get hBX)).trans hBX
    refine hK.out _ _ ?_ (fun hHeld => ?_)
    · assumption
    clear hK K
    try simp only [Act.put, List.setIfInBounds_toArray, List.set_cons_zero, List.set_cons_succ]
    clear hb
    refine tk (v := ?_) 6 o26_5_6 (by rfl) ?_ ?_
    case refine_2 => unfold o26_5_6; intro w hSw; obtain ⟨p0, p1, p2⟩ := HCE.out _ hSw; go_simp; (try with_reducible rfl)
    simp only [o26_5_6, Act.put, List.setIfInBounds_toArray, List.set_cons_zero, List.set_cons_succ]
    refine tk (v := ?_) 7 o26_5_7 (by rfl) ?_ ?_
    case refine_2 => unfold o26_5_7; intro w hSw; obtain ⟨p0, p1, p2⟩ := HCE.out _ hSw; go_simp; (try with_reducible rfl)
    simp only [o26_5_7, Act.put, List.setIfInBounds_toArray, List.set_cons_zero, List.set_cons_succ]
    refine tk (v := ?_) 8 o26_5_8 (by rfl) ?_ ?_
    case refine_2 => unfold o26_5_8; intro w hSw; obtain ⟨p0, p1, p2⟩ := HCE.out _ hSw; go_simp; (try with_reducible rfl)
    simp only [o26_5_8, Act.put, List.setIfInBounds_toArray, List.set_cons_zero, List.set_cons_succ]
    refine wpAnyH_ready (rs := [10]) (by kernel_rfl) (by simp) ?_
    refine (AllReadyH.cons (o := o26_5_10) rfl (fun K hK => ?_) AllReadyH.nil)
    unfold o26_5_10
    have z0 := cell_of_row _ _ 0 _ _ _ hBX
    have f0 := frozen_of_row _ _ 0 _ 37 hBX
    have z1 := cell_of_row _ _ 1 _ _ _ hBX
    have f1 := frozen_of_row _ _ 1 _ 37 hBX
    have z2 := cell_of_row _ _ 2 _ _ _ hBX
    have f2 := frozen_of_row _ _ 2 _ 37 hBX
    have z3 := cell_of_row _ _ 3 _ _ _ hBX
    have f3 := frozen_of_row _ _ 3 _ 37 hBX
    have z4 := cell_of_row _ _ 4 _ _ _ hBX
    have f4 := frozen_of_row _ _ 4 _ 37 hBX
    have z5 := cell_of_row _ _ 5 _ _ _ hBX
    have f5 := frozen_of_row _ _ 5 _ 37 hBX
    have z6 := cell_of_row _ _ 6 _ _ _ hBX
    have f6 := frozen_of_row _ _ 6 _ 37 hBX
    have z7 := cell_of_row _ _ 7 _ _ _ hBX
    have f7 := frozen_of_row _ _ 7 _ 37 hBX
    go_simp
    have hS4 := below8 hS3 hB9 (.int .i64 p.step) (.slice x.la p.left.length x.lc) (.int .i64 p.goal.kind) (.int .i64 p.goal.n) (.slice x.ga p.goal.kids.length x.gc) (.int .i64 p.ix) (.int .i64 p.n) (.slice x.ka p.kids.length x.kc)
    refine hK.out _ _ ?_ (fun hHeld => ?_)
    · assumption
    clear hK K
    try simp only [Act.put, List.setIfInBounds_toArray, List.set_cons_zero, List.set_cons_succ]
    refine tk (v := ?_) 11 o26_5_11 (by rfl) ?_ ?_
    case refine_2 => unfold o26_5_11; intro w hSw; obtain ⟨p0, p1, p2⟩ := HCE.out _ hSw; go_simp; (try with_reducible rfl)
    simp only [o26_5_11, Act.put, List.setIfInBounds_toArray, List.set_cons_zero, List.set_cons_succ]
    refine wpAnyH_done (by kernel_rfl) ?_ _
    exact NoPanic.normal (hQ _ _ _ _ _ _ _ _ _ _ _ (by assumption))
end Go.Proofs.Ytbmgkgoghgdbhaa.Te
