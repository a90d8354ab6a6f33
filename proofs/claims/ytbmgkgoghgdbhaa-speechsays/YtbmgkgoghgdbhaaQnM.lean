/- The document's Says: the drawn region of a round. Conditions: lists are short; what it calls itself for keeps its word. -/
import Derived.Test.YtbmgkgoghgdbhaaQl
import Derived.Test.YtbmgkgoghgdbhaaVf
import Derived.Maps.AppendAt
namespace Go.Proofs.Ytbmgkgoghgdbhaa.Te
open Go.RowKit

/-- what the document's Says answers -/
def DaR (ans : Option (List Nat)) (w : World) (v : Value) (w' : World) : Prop := Below w.heap.size w w' ∧ ((ans = none ∧ v = .slice none 0 0) ∨ ∃ r g off c, ans = some r ∧ v = .slice (some ⟨g, off, none⟩) r.length c ∧ NsAt w' r (some ⟨g, off, none⟩))
def o28_8_0 : Oper := { dst := some 28, op := Op.move (Operand.tmp 0), type := 49, pos := "speech.go:337", after := #[], guard := none }
def o28_8_1 : Oper := { dst := some 29, op := Op.load 24 (Operand.tmp 4), type := 24, pos := "speech.go:337", after := #[], guard := none }
def o28_8_2 : Oper := { dst := some 30, op := Op.move (Operand.tmp 2), type := 22, pos := "speech.go:337", after := #[], guard := none }
def o28_8_3 : Oper := { dst := some 31, op := Op.move (Operand.tmp 0), type := 49, pos := "speech.go:337", after := #[], guard := none }
def o28_8_4 : Oper := { dst := some 32, op := Op.move (Operand.tmp 2), type := 22, pos := "speech.go:337", after := #[], guard := none }
def o28_8_5 : Oper := { dst := some 33, op := Op.call { callee := Callee.builtin Builtin.len, args := #[Operand.tmp 32], argTypes := #[22] }, type := 3, pos := "speech.go:337", after := #[{ on := 4, ground := Ground.data }], guard := none }
def o28_8_6 : Oper := { dst := some 34, op := Op.indexAddr 49 (Operand.tmp 31) (Operand.tmp 33), type := 0, pos := "speech.go:337", after := #[{ on := 3, ground := Ground.data }, { on := 5, ground := Ground.data }], guard := none }
def o28_8_7 : Oper := { dst := some 35, op := Op.load 22 (Operand.tmp 34), type := 22, pos := "speech.go:337", after := #[{ on := 6, ground := Ground.data }], guard := none }
def o28_8_8 : Oper := { dst := some 36, op := Op.move (Operand.tmp 7), type := 3, pos := "speech.go:337", after := #[], guard := none }
def o28_8_9 : Oper := { dst := some 37, op := Op.move (Operand.tmp 7), type := 3, pos := "speech.go:337", after := #[], guard := none }
def o28_8_10 : Oper := { dst := some 38, op := Op.binOp BinOp.add 3 (Operand.tmp 37) (Operand.const (Value.int IntKind.i64 1)) 3, type := 3, pos := "speech.go:337", after := #[{ on := 9, ground := Ground.data }], guard := none }
def o28_8_11 : Oper := { dst := some 39, op := Op.slice 22 (Operand.tmp 35) (some (Operand.tmp 36)) (some (Operand.tmp 38)) none, type := 22, pos := "speech.go:337", after := #[{ on := 7, ground := Ground.data }, { on := 8, ground := Ground.data }, { on := 10, ground := Ground.data }], guard := none }
def o28_8_12 : Oper := { dst := some 40, op := Op.buildSlice 49 2 #[(0, Operand.tmp 30), (1, Operand.tmp 39)], type := 49, pos := "speech.go:337", after := #[{ on := 2, ground := Ground.data }, { on := 11, ground := Ground.data }], guard := none }
def o28_8_13 : Oper := { dst := some 41, op := Op.call { callee := Callee.value (Operand.func 52), args := #[Operand.tmp 40], argTypes := #[49] }, type := 22, pos := "speech.go:337", after := #[{ on := 12, ground := Ground.data }], guard := none }
def o28_8_14 : Oper := { dst := some 42, op := Op.call { callee := Callee.value (Operand.func 28), args := #[Operand.tmp 28, Operand.tmp 29, Operand.tmp 41], argTypes := #[49, 24, 22] }, type := 50, pos := "speech.go:337", after := #[{ on := 0, ground := Ground.data }, { on := 1, ground := Ground.data }, { on := 13, ground := Ground.data }, { on := 13, ground := Ground.chain }], guard := none }
def o28_8_15 : Oper := { dst := some 8, op := Op.assign (Operand.tmp 42), type := 50, pos := "speech.go:337", after := #[{ on := 14, ground := Ground.data }, { on := 14, ground := Ground.chain }, { on := 0, ground := Ground.phase }, { on := 1, ground := Ground.phase }, { on := 2, ground := Ground.phase }, { on := 3, ground := Ground.phase }, { on := 4, ground := Ground.phase }, { on := 5, ground := Ground.phase }, { on := 6, ground := Ground.phase }, { on := 7, ground := Ground.phase }, { on := 8, ground := Ground.phase }, { on := 9, ground := Ground.phase }, { on := 10, ground := Ground.phase }, { on := 11, ground := Ground.phase }, { on := 12, ground := Ground.phase }, { on := 13, ground := Ground.phase }, { on := 14, ground := Ground.phase }], guard := none }
set_option maxRecDepth 100000 in
set_option maxHeartbeats 4000000 in
theorem o28r8 {d dl : Nat} {ws : List (List Ty)} {kg ko kc : Nat} {l v fl : List Ty} {la : Option Addr} {lc vg vo vc k : Nat} {t g : Ty} {ag : Option Addr} {cg gb : Nat} {wr : World} {ans : Option (List Nat)} {Q : Exit → Act → World → Prop} {u1 u3 u5 u6 u8 u9 u10 u11 u12 u13 u14 u15 u16 u17 u18 u19 u20 u21 u22 u23 u24 u25 u26 u27 u28 u29 u30 u31 u32 u33 u34 u35 u36 u37 u38 u39 u40 u41 u42 u43 u44 u45 u46 u47 u48 : Value} (hw6 : ws.length ≤ 6) (hlw : l.length < ws.length) (hkg : kg < wr.heap.size) (k3 : wr.cell? ⟨kg, ko + l.length, none⟩ = some (.slice (some ⟨vg, vo, none⟩) v.length vc)) (hv : LsQ wr d v (some ⟨vg, vo, none⟩) vc) (hv3 : v.length ≤ 3) (hk : k < v.length) (ht : v[k] = t) (hl : LsQ wr dl l la lc) (hfl : l ++ [t] = fl) (hgb : wr.heap[gb]? = some (.cells #[.int .i64 g.kind, .int .i64 g.n, .slice ag g.kids.length cg] 24 (0, 0)))
    (K28 : ∀ V a c, Below wr.heap.size wr V → LsQ V (max dl d) fl a c → Calls Try.prog 28 #[.slice (some ⟨kg, ko, none⟩) ws.length kc, vty g ag cg, .slice a fl.length c] V fun e w' => ∃ v, e = .returned v ∧ DaR ans V v w')
    (hQ : ∀ (ev v28 v29 v30 v31 v32 v33 v34 v35 v36 v37 v38 v39 v40 v41 v42 : Value) (wx : World), DaR ans wr ev wx → Q .normal { tmps := #[.slice (some ⟨kg, ko, none⟩) ws.length kc, u1, .slice la l.length lc, u3, .pointer (some ⟨gb, 0, none⟩), u5, u6, .int .i64 (k : Int), ev, u9, u10, u11, u12, u13, u14, u15, u16, u17, u18, u19, u20, u21, u22, u23, u24, u25, u26, u27, v28, v29, v30, v31, v32, v33, v34, v35, v36, v37, v38, v39, v40, v41, v42, u43, u44, u45, u46, u47, u48], defers := [] } wx) :
    (Code.region 8 #[o28_8_0, o28_8_1, o28_8_2, o28_8_3, o28_8_4, o28_8_5, o28_8_6, o28_8_7, o28_8_8, o28_8_9, o28_8_10, o28_8_11, o28_8_12, o28_8_13, o28_8_14, o28_8_15] true).wp Try.prog Q { tmps := #[.slice (some ⟨kg, ko, none⟩) ws.length kc, u1, .slice la l.length lc, u3, .pointer (some ⟨gb, 0, none⟩), u5, u6, .int .i64 (k : Int), u8, u9, u10, u11, u12, u13, u14, u15, u16, u17, u18, u19, u20, u21, u22, u23, u24, u25, u26, u27, u28, u29, u30, u31, u32, u33, u34, u35, u36, u37, u38, u39, u40, u41, u42, u43, u44, u45, u46, u47, u48], defers := [] } wr := by
  have hgl := lt_of_get hgb
  have hroom : v.length ≤ vc := hv.1
  have hne : ¬ vc = k := by omega
  have HT : Hid (LsQ wr d [t] (some ⟨vg, vo + k * 3, none⟩) (vc - k)) := by
    have h2 := (hv.drop k).take 1
    have e : (v.drop k).take 1 = [t] := by rw [List.drop_eq_getElem_cons hk, ht]; rfl
    rw [e] at h2
    exact h2
  have HL : Hid (LsQ wr dl l la lc) := hl
  have HJN : Hid (l ++ [t] = fl) := hfl
  have HFL : Hid (fl.length ≤ 1000) := by show fl.length ≤ 1000; rw [← hfl]; simp; omega
  have k0 := cell_of_row _ _ 0 _ _ _ hgb
  have k1 := cell_of_row _ _ 1 _ _ _ hgb
  have k2 := cell_of_row _ _ 2 _ _ _ hgb
  obtain ⟨kn, hk1⟩ : ∃ kn, kn = k + 1 := ⟨_, rfl⟩
  have hwp : IntKind.i64.wrap ((k : Int) + 1) = (kn : Int) := by rw [IntKind.wrap_i64]; omega
  have i1 : (kn : Int) ≤ (vc : Int) := by omega
  have i4 : k ≤ kn := by omega
  have i5 : kn - k = 1 := by omega
  clear hk1
  have i2 : (k : Int) < (v.length : Int) := by omega
  have i3 : (l.length : Int) < (ws.length : Int) := by omega
  clear hv hl hfl hgb ht
  refine wp_region_noPanic ?_
  have HCE : Hid _ := fun (W : World) (hSw : Below wr.heap.size wr W) => (And.intro ((hSw.cell (p := ⟨gb, 0, none⟩) hgl).trans k0) (And.intro ((hSw.cell (p := ⟨gb, 1, none⟩) hgl).trans k1) (And.intro ((hSw.cell (p := ⟨gb, 2, none⟩) hgl).trans k2) ((hSw.cell (p := ⟨kg, ko + l.length, none⟩) hkg).trans k3))))
  refine wp_region_held_drew (S := fun W => Below wr.heap.size wr W) (by kernel_rfl) (by exact below_drewN (Below.refl _ _) 1) (fun hHeld => ?_)
  have hS0 := hHeld
  generalize hV : wr.drew = V0 at *
  clear hV
  refine tk (v := ?_) 0 o28_8_0 (by rfl) ?_ ?_
  case refine_2 => unfold o28_8_0; intro w hSw; obtain ⟨p0, p1, p2, p3⟩ := HCE.out _ hSw; go_simp; (try with_reducible rfl)
  simp only [o28_8_0, Act.put, List.setIfInBounds_toArray, List.set_cons_zero, List.set_cons_succ]
  refine tk (v := ?_) 1 o28_8_1 (by rfl) ?_ ?_
  case refine_2 => unfold o28_8_1; intro w hSw; obtain ⟨p0, p1, p2, p3⟩ := HCE.out _ hSw; go_simp; (try with_reducible rfl)
  simp only [o28_8_1, Act.put, List.setIfInBounds_toArray, List.set_cons_zero, List.set_cons_succ]
  refine tk (v := ?_) 2 o28_8_2 (by rfl) ?_ ?_
  case refine_2 => unfold o28_8_2; intro w hSw; obtain ⟨p0, p1, p2, p3⟩ := HCE.out _ hSw; go_simp; (try with_reducible rfl)
  simp only [o28_8_2, Act.put, List.setIfInBounds_toArray, List.set_cons_zero, List.set_cons_succ]
  refine tk (v := ?_) 3 o28_8_3 (by rfl) ?_ ?_
  case refine_2 => unfold o28_8_3; intro w hSw; obtain ⟨p0, p1, p2, p3⟩ := HCE.out _ hSw; go_simp; (try with_reducible rfl)
  simp only [o28_8_3, Act.put, List.setIfInBounds_toArray, List.set_cons_zero, List.set_cons_succ]
  refine tk (v := ?_) 4 o28_8_4 (by rfl) ?_ ?_
  case refine_2 => unfold o28_8_4; intro w hSw; obtain ⟨p0, p1, p2, p3⟩ := HCE.out _ hSw; go_simp; (try with_reducible rfl)
  simp only [o28_8_4, Act.put, List.setIfInBounds_toArray, List.set_cons_zero, List.set_cons_succ]
  refine tk (v := ?_) 5 o28_8_5 (by rfl) ?_ ?_
  case refine_2 => unfold o28_8_5; intro w hSw; obtain ⟨p0, p1, p2, p3⟩ := HCE.out _ hSw; go_simp; (try with_reducible rfl)
  simp only [o28_8_5, Act.put, List.setIfInBounds_toArray, List.set_cons_zero, List.set_cons_succ]
  refine tk (v := ?_) 6 o28_8_6 (by rfl) ?_ ?_
  case refine_2 => unfold o28_8_6; intro w hSw; obtain ⟨p0, p1, p2, p3⟩ := HCE.out _ hSw; go_simp; (try with_reducible rfl)
  simp only [o28_8_6, Act.put, List.setIfInBounds_toArray, List.set_cons_zero, List.set_cons_succ]
  refine tk (v := ?_) 7 o28_8_7 (by rfl) ?_ ?_
  case refine_2 => unfold o28_8_7; intro w hSw; obtain ⟨p0, p1, p2, p3⟩ := HCE.out _ hSw; go_simp; (try with_reducible rfl)
  simp only [o28_8_7, Act.put, List.setIfInBounds_toArray, List.set_cons_zero, List.set_cons_succ]
  refine tk (v := ?_) 8 o28_8_8 (by rfl) ?_ ?_
  case refine_2 => unfold o28_8_8; intro w hSw; obtain ⟨p0, p1, p2, p3⟩ := HCE.out _ hSw; go_simp; (try with_reducible rfl)
  simp only [o28_8_8, Act.put, List.setIfInBounds_toArray, List.set_cons_zero, List.set_cons_succ]
  refine tk (v := ?_) 9 o28_8_9 (by rfl) ?_ ?_
  case refine_2 => unfold o28_8_9; intro w hSw; obtain ⟨p0, p1, p2, p3⟩ := HCE.out _ hSw; go_simp; (try with_reducible rfl)
  simp only [o28_8_9, Act.put, List.setIfInBounds_toArray, List.set_cons_zero, List.set_cons_succ]
  refine tk (v := ?_) 10 o28_8_10 (by rfl) ?_ ?_
  case refine_2 => unfold o28_8_10; intro w hSw; obtain ⟨p0, p1, p2, p3⟩ := HCE.out _ hSw; go_simp; (try with_reducible rfl)
  simp only [o28_8_10, Act.put, List.setIfInBounds_toArray, List.set_cons_zero, List.set_cons_succ]
  refine tk (v := ?_) 11 o28_8_11 (by rfl) ?_ ?_
  case refine_2 => unfold o28_8_11; intro w hSw; obtain ⟨p0, p1, p2, p3⟩ := HCE.out _ hSw; go_simp; (try with_reducible rfl)
  simp only [o28_8_11, Act.put, List.setIfInBounds_toArray, List.set_cons_zero, List.set_cons_succ]
  refine wpAnyH_ready (rs := [12]) (by kernel_rfl) (by simp) ?_
  refine (AllReadyH.cons (o := o28_8_12) rfl (fun K hK => ?_) AllReadyH.nil)
  unfold o28_8_12
  go_simp
  have hn1 := heap_alloc_new V0 (.cells #[.slice la l.length lc, .slice (some ⟨vg, vo + k * 3, none⟩) 1 (vc - k)] 22)
  have hb1 : Below V0.heap.size V0 (V0.alloc (.cells #[.slice la l.length lc, .slice (some ⟨vg, vo + k * 3, none⟩) 1 (vc - k)] 22)) := (Below.refl _ V0).alloc (Nat.le_refl _) _
  have hS1 := hS0.trans (hb1.mono hS0.size)
  refine hK.out _ _ ?_ (fun hHeld => ?_)
  · exact hS1
  clear hK K
  try simp only [Act.put, List.setIfInBounds_toArray, List.set_cons_zero, List.set_cons_succ]
  generalize hV : V0.alloc (.cells #[.slice la l.length lc, .slice (some ⟨vg, vo + k * 3, none⟩) 1 (vc - k)] 22) = V1 at *
  clear hV
  refine wpAnyH_ready (rs := [13]) (by kernel_rfl) (by simp) ?_
  refine (AllReadyH.cons (o := o28_8_13) rfl (fun K hK => ?_) AllReadyH.nil)
  unfold o28_8_13
  go_simp
  (with_reducible refine (joinq2 V0.heap.size l [t] fl HJN.out V1 hn1 (HL.out.below hS1) (HT.out.below hS1) HFL.out).mono ?_)
  rintro e1 V2 ⟨aj, cj, rfl, hT2, hb2⟩
  dsimp only
  have hS2 := hS1.trans (hb2.mono hS1.size)
  refine hK.out _ _ ?_ (fun hHeld => ?_)
  · exact hS2
  clear hK K
  try simp only [Act.put, List.setIfInBounds_toArray, List.set_cons_zero, List.set_cons_succ]
  refine wpAnyH_ready (rs := [14]) (by kernel_rfl) (by simp) ?_
  refine (AllReadyH.cons (o := o28_8_14) rfl (fun K hK => ?_) AllReadyH.nil)
  unfold o28_8_14
  go_simp
  have KQ := K28 V2 aj cj hS2 hT2
  unfold vty at KQ
  (with_reducible refine KQ.mono ?_)
  clear KQ
  rintro e2 V3 ⟨ev, rfl, hDR⟩
  dsimp only
  have hS3 := hS2.trans (hDR.1.mono hS2.size)
  refine hK.out _ _ ?_ (fun hHeld => ?_)
  · exact hS3
  clear hK K
  try simp only [Act.put, List.setIfInBounds_toArray, List.set_cons_zero, List.set_cons_succ]
  refine tk (v := ?_) 15 o28_8_15 (by rfl) ?_ ?_
  case refine_2 => unfold o28_8_15; intro w hSw; obtain ⟨p0, p1, p2, p3⟩ := HCE.out _ hSw; go_simp; (try with_reducible rfl)
  simp only [o28_8_15, Act.put, List.setIfInBounds_toArray, List.set_cons_zero, List.set_cons_succ]
  refine wpAnyH_done (by kernel_rfl) ?_ _
  exact NoPanic.normal (hQ ev _ _ _ _ _ _ _ _ _ _ _ _ _ _ _ _ ⟨hS3, hDR.2⟩)
end Go.Proofs.Ytbmgkgoghgdbhaa.Te
/- The document's Says: the first choice in order. Condition: the words are right. -/
namespace Go.Proofs.Ytbmgkgoghgdbhaa.Te
open Go.RowKit

/-- a number ahead of a list of numbers -/
theorem wpList_cons {ops : Array Oper} {rest : List Oper} {o : Oper} {a : Act} {Q : Exit → Act → World → Prop} {w : World} (hgd : o.guard = none) (s x : Operand)
    (ho : o.op = .call { callee := .builtin .append, args := #[s, x], argTypes := #[50, 50] }) (k B g off c : Nat) (r : List Nat) (hs : a.eval s = .slice (some ⟨B, 0, none⟩) 1 1) (hB : w.heap[B]? = some (.cells #[.int .i64 (k : Int)] 3 (0, 0)))
    (hx : a.eval x = .slice (some ⟨g, off, none⟩) r.length c) (hr : NsAt w r (some ⟨g, off, none⟩)) (hl : r.length ≤ 1000)
    (h : ∀ g' c' w', NsAt w' (k :: r) (some ⟨g', 0, none⟩) → Below B w w' → wpList Try.prog ops Q rest (a.put o.dst (.slice (some ⟨g', 0, none⟩) (k :: r).length c')) w') : wpList Try.prog ops Q (o :: rest) a w := by
  obtain ⟨i0, hi, hz0, hz1, hz2⟩ := info_parts info3
  have hlt := lt_of_get hB
  have hown : w.ownsRow B 3 1 (.slice (some ⟨B, 0, none⟩) 1 1) 1 [.int .i64 (k : Int)] := ⟨rfl, .inr ⟨B, 1, _, rfl, Nat.le_refl _, hB, Nat.le_refl _, by unfold maxLen; omega, rfl, rfl⟩⟩
  refine wpList_append_own_at w hgd s x 50 ho B 3 i0 _ 1 8 Try.underlying50 hi hz0 hz1 hz2 rfl (by decide) _ 1 _ hs hown ⟨g, off, none⟩ r.length c (r.map fun c : Nat => Value.int .i64 (c : Int)) hx (by simp) ?_ ?_ (by unfold maxLen; omega) (by omega) (Nat.le_of_lt hlt) ?_
  · intro j u hu
    rw [List.getElem?_map] at hu
    cases hj : r[j]? with
    | none => rw [hj] at hu; cases hu
    | some y =>
      rw [hj] at hu
      simp only [Option.map_some, Option.some.injEq] at hu
      subst hu
      obtain ⟨hjl, hjy⟩ := List.getElem?_eq_some_iff.1 hj
      rcases hr with h0 | ⟨g1, o1, e1, _, hc⟩
      · omega
      · simp only [Option.some.injEq, Addr.mk.injEq, and_true] at e1
        obtain ⟨rfl, rfl⟩ := e1
        rw [← hjy]
        have e : (Addr.mk g off none).add j = ⟨g, off + j, none⟩ := by simp [Addr.add]
        rw [e]
        exact hc j hjl
  · intro u hu
    obtain ⟨y, _, rfl⟩ := List.mem_map.1 hu
    rfl
  · intro v' w' hown' hgrow hnil _
    have hb : Below B w w' := (Below.refl B w).grown hgrow (Nat.le_of_lt hlt) (fun j hj => by simp only [Value.ownBlock, Option.some.injEq] at hj; omega)
    obtain ⟨hlen, hv⟩ := hown'
    rcases hv with ⟨_, h1⟩ | ⟨g', cap, cur, rfl, hg', hh, hcap, _, hcs, htk⟩
    · omega
    · rw [show 1 + r.length = (k :: r).length by simp; omega]
      refine h g' cap w' (.inr ⟨g', 0, rfl, lt_of_get hh, fun j hj => ?_⟩) hb
      rw [cell_of_row _ _ _ _ _ _ hh, Nat.zero_add]
      have hj' : j < (1 + r.length) * 1 := by simp at hj; omega
      have e2 : cur.toList[j]? = ([Value.int .i64 (k : Int)] ++ r.map fun c : Nat => Value.int .i64 (c : Int))[j]? := by
        rw [← htk, List.getElem?_take_of_lt hj']
      rw [Array.getElem?_toList] at e2
      rw [e2]
      cases j with
      | zero => rfl
      | succ j =>
        have hjr : j < r.length := by simpa using hj
        simp [hjr]
theorem fits_snoc : ∀ {us : List (List Ty)} {cs : List Nat} {v : List Ty} {k : Nat}, Fits us cs → k < v.length → Fits (us ++ [v]) (cs ++ [k])
  | [], [], _, _, _, h => ⟨h, trivial⟩
  | _ :: _, _ :: _, _, _, hf, h => ⟨hf.1, fits_snoc hf.2 h⟩
  | [], _ :: _, _, _, hf, _ => hf.elim
  | _ :: _, [], _, _, hf, _ => hf.elim
theorem pk_snoc : ∀ {us : List (List Ty)} {cs : List Nat} {v : List Ty} {k : Nat} (_ : Fits us cs) (h : k < v.length), pk (us ++ [v]) (cs ++ [k]) = pk us cs ++ [v[k]]
  | [], [], v, k, _, h => by
    have hc : v[k]? = some v[k] := List.getElem?_eq_getElem h
    simp only [List.nil_append, pk, hc]
  | u :: us, c :: cs, v, k, hf, h => by
    have hcl : c < u.length := hf.1
    have hc : u[c]? = some u[c] := List.getElem?_eq_getElem hcl
    simp only [List.cons_append, pk, hc, pk_snoc hf.2 h]
  | [], _ :: _, _, _, hf, _ => hf.elim
  | _ :: _, [], _, _, hf, _ => hf.elim
set_option maxRecDepth 100000 in
set_option maxHeartbeats 4000000 in
theorem says_doc {d dg : Nat} (D : List Ty → Bool) (ws : List (List Ty)) (kg ko kc : Nat) (g : Ty) (ag : Option Addr) (cg : Nat) (h0 : cwords ws g = 0) (hD : ∀ l, D l = true ↔ E l g) : ∀ (n : Nat) (us vs : List (List Ty)) (cs : List Nat) (l : List Ty) (dl : Nat) (la : Option Addr) (lc : Nat) (w : World), vs.length = n → us ++ vs = ws → Fits us cs → pk us cs = l → LsQ w dl l la lc → WsAt w d ws (some ⟨kg, ko, none⟩) → TyQ w dg g ag cg →
    Calls Try.prog 28 #[.slice (some ⟨kg, ko, none⟩) ws.length kc, vty g ag cg, .slice la l.length lc] w fun e w' => ∃ v, e = .returned v ∧ DaR (fs D vs l) w v w' := by
  obtain ⟨h1, h6, h3, _⟩ := cwords_zero h0
  intro n
  induction n with
  | zero =>
    intro us vs cs l dl la lc w hvs hws hf hpk hl hW hg
    obtain rfl := List.length_eq_zero_iff.1 hvs
    rw [List.append_nil] at hws
    subst hws
    have hseq := cseq_pk h0 hf
    rw [hpk] at hseq
    obtain ⟨hsm, gl, gg, hne⟩ := cseq_small hseq
    have hll : l.length = us.length := by rw [← hpk]; exact (pk_at us cs hf).1
    have K22 := fun W (hb : Below w.heap.size w W) => pv_any 900 (Nat.le_refl _) dl dg l la lc g ag cg W (D l) (by omega) (hl.below hb) (hg.below hb) gl gg hne (hD l)
    obtain ⟨r, hr⟩ : ∃ r, D l = r := ⟨_, rfl⟩
    have hans : fs D [] l = if r = true then some [] else none := by rw [fs, hr]
    rw [hr, hll] at K22
    rw [hll, hans]
    clear hseq hsm gl gg hne hl hW hg hf hpk hans hr hll h3 h0
    have hVb : Below w.heap.size w (w.alloc (.cells #[.int .i64 g.kind, .int .i64 g.n, .slice ag g.kids.length cg] 24)) := (Below.refl _ w).alloc (Nat.le_refl _) _
    have x1 := heap_alloc_new w (.cells #[.int .i64 g.kind, .int .i64 g.n, .slice ag g.kids.length cg] 24)
    have K22 := K22 _ hVb
    unfold vty at K22 ⊢
    cases r with
    | true =>
      go_enter Try.func28, Try.ntmps28
      go_wp2_with (go_at_call 22; (with_reducible refine K22.mono ?_); rintro e1 w1 ⟨rfl, hb1⟩; clear K22)
      go_ret
      have hbn : Below w1.heap.size w1 (w1.alloc (.cells #[] 3)) := (Below.refl _ w1).alloc (Nat.le_refl _) _
      exact ⟨_, rfl, hVb.trans ((hb1.trans (hbn.mono hb1.size)).mono hVb.size), .inr ⟨[], w1.heap.size, 0, 0, rfl, rfl, .inl rfl⟩⟩
    | false =>
      go_enter Try.func28, Try.ntmps28
      go_wp2_with (go_at_call 22; (with_reducible refine K22.mono ?_); rintro e1 w1 ⟨rfl, hb1⟩; clear K22)
      go_ret
      exact ⟨_, rfl, hVb.trans (hb1.mono hVb.size), .inl ⟨rfl, rfl⟩⟩
  | succ n ih =>
    intro us vs cs l dl la lc w hvs hws hf hpk hl hW hg
    obtain ⟨v, vs', rfl⟩ : ∃ v vs', vs = v :: vs' := by
      cases vs with
      | nil => simp at hvs
      | cons v vs' => exact ⟨v, vs', rfl⟩
    have hll : l.length = us.length := by rw [← hpk]; exact (pk_at us cs hf).1
    have hlw : l.length < ws.length := by rw [hll, ← hws]; simp
    have hwl : ws[l.length] = v := by simp [← hws, hll]
    have hv3 := (h3 v (by rw [← hws]; simp)).2
    have IH := fun (t : Ty) (k : Nat) (hk : k < v.length) (ht : v[k] = t) (dl' : Nat) (a : Option Addr) (c : Nat) (V : World) (hb : Below w.heap.size w V) (hL : LsQ V dl' (l ++ [t]) a c) => ih (us ++ [v]) vs' (cs ++ [k]) (l ++ [t]) dl' a c V (by simpa using hvs) (by rw [List.append_assoc]; exact hws) (fits_snoc hf hk) (by rw [pk_snoc hf hk, hpk, ht]) hL (hW.below hb) (hg.below hb)
    have hr6 : ∀ t r, fs D vs' (l ++ [t]) = some r → r.length ≤ 1000 := by
      have aux : ∀ (vs : List (List Ty)) (l : List Ty) (r : List Nat), fs D vs l = some r → r.length = vs.length := by
        intro vs
        induction vs with
        | nil => intro l r h; simp only [fs] at h; split at h <;> simp_all
        | cons v vs ih =>
          intro l r h
          simp only [fs] at h
          have aux2 : ∀ (ts : List Ty) (i : Nat) (r : List Nat), firstI (fun t => fs D vs (l ++ [t])) i ts = some r → r.length = vs.length + 1 := by
            intro ts
            induction ts with
            | nil => intro i r h; simp [firstI] at h
            | cons t ts iht =>
              intro i r h
              simp only [firstI] at h
              cases hh : fs D vs (l ++ [t]) with
              | some q => simp only [hh, Option.some.injEq] at h; subst h; simp [ih _ _ hh]
              | none => simp only [hh] at h; exact iht _ _ h
          exact aux2 v 0 r h
      intro t r h
      have := aux _ _ _ h
      have : (v :: vs').length ≤ ws.length := by rw [← hws]; simp
      simp at this
      omega
    obtain ⟨a1, c1, hcell, hV⟩ : ∃ a' c', w.cell? ⟨kg, ko + l.length, none⟩ = some (.slice a' v.length c') ∧ LsQ w d v a' c' := by
      rcases hW with h | ⟨B, off, e, _, h⟩
      · omega
      · simp only [Option.some.injEq, Addr.mk.injEq, and_true] at e
        obtain ⟨rfl, rfl⟩ := e
        obtain ⟨a', c', q1, q2⟩ := h l.length hlw
        rw [hwl] at q1 q2
        exact ⟨a', c', q1, q2⟩
    have hkg : kg < w.heap.size := by
      rcases hW with h | ⟨B, off, e, h, _⟩
      · omega
      · simp only [Option.some.injEq, Addr.mk.injEq, and_true] at e
        obtain ⟨rfl, rfl⟩ := e
        exact h
    have hne : ¬ (l.length : Int) = (ws.length : Int) := by omega
    have hneb : ((l.length : Int) == (ws.length : Int)) = false := by simpa using hne
    have hlw' : (l.length : Int) < (ws.length : Int) := by omega
    have HL : Hid (LsQ w dl l la lc) := hl
    have HV : Hid (LsQ w d v a1 c1) := hV
    have HIH : Hid (∀ (t : Ty) (k : Nat) (hk : k < v.length) (_ : v[k] = t) (dl' : Nat) (a : Option Addr) (c : Nat) (V : World), Below w.heap.size w V → LsQ V dl' (l ++ [t]) a c → Calls Try.prog 28 #[.slice (some ⟨kg, ko, none⟩) ws.length kc, vty g ag cg, .slice a (l ++ [t]).length c] V fun e w' => ∃ v, e = .returned v ∧ DaR (fs D vs' (l ++ [t])) V v w') := IH
    have H6 : Hid (∀ t r, fs D vs' (l ++ [t]) = some r → r.length ≤ 1000) := hr6
    obtain ⟨f, hfd⟩ : ∃ f, (fun t => fs D vs' (l ++ [t])) = f := ⟨_, rfl⟩
    have hff : ∀ t, fs D vs' (l ++ [t]) = f t := fun t => by rw [← hfd]
    have hans : fs D (v :: vs') l = firstI f 0 v := by rw [fs, hfd]
    rw [hans]
    obtain ⟨ans, hA⟩ : ∃ ans, firstI f 0 v = ans := ⟨_, rfl⟩
    rw [hA]
    simp only [hff] at HIH H6
    have HA : Hid (firstI f 0 v = ans) := hA
    clear hl hV IH hr6 hfd hff hans hA hf hpk hll hwl hW hg hws hvs ih h3 hneb
    have hVb : Below w.heap.size w (w.alloc (.cells #[.int .i64 g.kind, .int .i64 g.n, .slice ag g.kids.length cg] 24)) := (Below.refl _ w).alloc (Nat.le_refl _) _
    have x1 := heap_alloc_new w (.cells #[.int .i64 g.kind, .int .i64 g.n, .slice ag g.kids.length cg] 24)
    have hneb : ((l.length : Int) == (ws.length : Int)) = false := by simpa using hne
    unfold vty
    go_enter Try.func28, Try.ntmps28
    go_wp2
    generalize hVV : w.alloc (.cells #[.int .i64 g.kind, .int .i64 g.n, .slice ag g.kids.length cg] 24) = V at *
    clear hVV
    have X1 : Hid (V.heap[w.heap.size]? = some (.cells #[.int .i64 g.kind, .int .i64 g.n, .slice ag g.kids.length cg] 24 (0, 0))) := x1
    clear x1
    go_loopw [7] (fun iv wr => ∃ k : Nat, iv = .int .i64 (k : Int) ∧ k ≤ v.length ∧ Below V.heap.size V wr ∧ firstI f k (v.drop k) = ans) (fun iv _ => v.length - (intOf iv).toNat)
    case atStart => exact ⟨0, rfl, by omega, Below.refl _ _, HA.out⟩
    case round =>
      obtain ⟨k, rfl, hkl', hB, hfi⟩ := hrel
      have hBw := hVb.trans (hB.mono hVb.size)
      have hcell' := (hBw.cell (p := ⟨kg, ko + l.length, none⟩) hkg).trans hcell
      have HFI : Hid (firstI f k (v.drop k) = ans) := hfi
      clear hfi hcell
      by_cases hkl : k < v.length
      · have hkl2 : (k : Int) < (v.length : Int) := by omega
        obtain ⟨vg, vo, rfl, hvg⟩ := HV.out.addr (by omega)
        have hgb : wr.heap[w.heap.size]? = some (.cells #[.int .i64 g.kind, .int .i64 g.n, .slice ag g.kids.length cg] 24 (0, 0)) := (hB.block _ (lt_of_get X1.out)).trans X1.out
        have HGB : Hid (wr.heap[w.heap.size]? = some (.cells #[.int .i64 g.kind, .int .i64 g.n, .slice ag g.kids.length cg] 24 (0, 0))) := hgb
        have HFK : Hid ((match f v[k] with | some r => some (k :: r) | none => firstI f (k + 1) (v.drop (k + 1))) = ans) := by
          show _ = _
          rw [← HFI.out, List.drop_eq_getElem_cons hkl]
          rfl
        clear hgb
        go_upto_region 8 with fail
        refine o28r8 h6 hlw (Nat.lt_of_lt_of_le hkg hBw.size) hcell' (HV.out.below hBw) hv3 hkl rfl (HL.out.below hBw) rfl HGB.out (fun U a c hU hL => HIH.out v[k] k hkl rfl _ a c U (hBw.trans (hU.mono hBw.size)) hL) (fun ev v28 v29 v30 v31 v32 v33 v34 v35 v36 v37 v38 v39 v40 v41 v42 wx hda => ?_)
        obtain ⟨hbx, hda⟩ := hda
        have hBx := hB.trans (hbx.mono hB.size)
        rcases hda with ⟨hnone, rfl⟩ | ⟨r, g1, off1, c1', hsome, rfl, hns⟩
        · have HFK2 : Hid (firstI f (k + 1) (v.drop (k + 1)) = ans) := by
            have := HFK.out
            rw [hnone] at this
            exact this
          clear hnone HFK
          go_wp2
          go_roundw
          case rel => exact ⟨k + 1, by go_num, by omega, hBx, HFK2.out⟩
          case measure => simp [intOf]; omega
        · have HFK2 : Hid (ans = some (k :: r)) := by
            have := HFK.out
            rw [hsome] at this
            exact this.symm
          have hr6 := H6.out _ _ hsome
          have HNS : Hid (NsAt wx r (some ⟨g1, off1, none⟩)) := hns
          have hn := heap_alloc_new wx (.cells #[.int .i64 (k : Int)] 3)
          have hbn : Below wx.heap.size wx (wx.alloc (.cells #[.int .i64 (k : Int)] 3)) := (Below.refl _ wx).alloc (Nat.le_refl _) _
          clear hsome HFK hns
          go_wp2_with (at_builtin; refine wpList_cons rfl (.tmp 46) (.tmp 47) rfl k wx.heap.size g1 off1 c1' r rfl hn rfl (HNS.out.below hbn) hr6 ?_; intro g' c' w' hns' hb')
          go_ret
          refine ⟨_, rfl, hVb.trans ((hBx.trans ((hbn.trans hb').mono hBx.size)).mono hVb.size), .inr ⟨k :: r, g', 0, c', HFK2.out, rfl, hns'⟩⟩
      · have hkl2 : ¬ (k : Int) < (v.length : Int) := by omega
        have HN : Hid (ans = none) := by
          show _ = _
          rw [← HFI.out, List.drop_eq_nil_of_le (by omega)]
          rfl
        go_wp2
        go_ret
        exact ⟨_, rfl, hBw, .inl ⟨HN.out, rfl⟩⟩
end Go.Proofs.Ytbmgkgoghgdbhaa.Te
