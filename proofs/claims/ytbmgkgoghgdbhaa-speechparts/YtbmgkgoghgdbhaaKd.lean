/- read: the part at the beginning of a text. Condition: there is one. -/
import Derived.Test.YtbmgkgoghgdbhaaKc
import Derived.Test.YtbmgkgoghgdbhaaSxM
namespace Go.Proofs.Ytbmgkgoghgdbhaa.Te
open Go.RowKit

theorem results_row_tmp {P : Program} {fn : Func} {p u : Tmp} {ty : TypeId} (h : fn.results = #[.cell p ty, .tmp u]) (tmps : Array Value) (w : World) (g : Nat) (t : TypeId) (cs : Array Value) (fr : Nat × Nat) (d : TypeDesc)
    (hp : tmps.getD p undef = .pointer (some ⟨g, 0, none⟩)) (hg : w.heap[g]? = some (.cells cs t fr))
    (hu : P.underlying ty = some d) (hd : (match d with | .struct _ | .array _ _ => true | _ => false) = true) (hi : (P.info? ty).map (·.size) = some cs.size) :
    (results fn tmps).run P w = .ok (.tuple #[.agg cs, tmps.getD u undef]) w := by
  rw [results_cell_tmp h, hp]
  simp [asAddr, run_loadVar_row w g t ty cs fr d hg hu hd hi]
theorem nb_head {s : ByteArray} {c : Nat} {l : List Nat} (h : nb s = c :: l) : 0 < s.size ∧ (∀ h : 0 < s.size, (s[0]'h).toNat = c) ∧ nb (s.extract 1 s.size) = l := by
  have h0 : 0 < s.size := by rw [← nb_len, h]; simp
  have h1 := nb_drop h0
  rw [List.drop_zero, h] at h1
  simp only [Nat.zero_add, List.cons.injEq] at h1
  refine ⟨h0, fun _ => h1.1.symm, ?_⟩
  have h2 : nb (s.extract 1 s.size) = (nb s).drop 1 := by
    unfold nb
    rw [ByteArray.data_extract, Array.toList_extract, List.extract_eq_take_drop, List.map_take, List.map_drop]
    apply List.take_of_length_le
    simp
  rw [h2, h]
  rfl
theorem u8_wrap (n : Nat) (h : n < 256) : IntKind.u8.wrap (n : Int) = (n : Int) := by
  unfold IntKind.wrap
  simp [IntKind.bits, IntKind.signed]
  omega
/-- what read answers -/
def RdQ (d : Nat) (p : Ty) (rest : List Nat) (w : World) (e : Ending) (w' : World) : Prop := ∃ a c s', e = .returned (.tuple #[vty p a c, .string s']) ∧ nb s' = rest ∧ TyP (fun g => w.heap.size ≤ g) w' d p a c ∧ Below w.heap.size w w'
/-- two parts, laid side by side into a new block, are a part's kids; then a box that lies ahead is written -/
theorem kids_laid {U : World} {n B6 b0 : Nat} (p x y : Ty) (hp : p.kids = [x, y]) (hk : i64B p.kind) (hn : i64B p.n) (hb : b0 < B6) {a1 a2 : Option Addr} {c1 c2 : Nat} (x6 : U.heap[B6]? = some (.cells #[.int .i64 x.kind, .int .i64 x.n, .slice a1 x.kids.length c1, .int .i64 y.kind, .int .i64 y.n, .slice a2 y.kids.length c2] 24 (0, 0)))
    (hx : TyP (fun g => b0 < g) U n x a1 c1) (hy : TyP (fun g => b0 < g) U n y a2 c2) (u v z : Value) : TyP (fun g => b0 ≤ g) (((U.setCell ⟨b0, 0, none⟩ u).setCell ⟨b0, 1, none⟩ v).setCell ⟨b0, 2, none⟩ z) (n + 1) p (some ⟨B6, 0, none⟩) 2 := by
  have hh : TyP (fun g => b0 < g) U (n + 1) p (some ⟨B6, 0, none⟩) 2 := by
    refine ⟨hk, hn, by rw [hp]; simp, .inr ⟨B6, 0, rfl, lt_of_get x6, hb, ?_⟩⟩
    rw [hp]
    intro j hj
    match j, hj with
    | 0, _ => exact ⟨a1, c1, cell_of_row _ _ 0 _ _ _ x6, cell_of_row _ _ 1 _ _ _ x6, cell_of_row _ _ 2 _ _ _ x6, hx⟩
    | 1, _ => exact ⟨a2, c2, cell_of_row _ _ 3 _ _ _ x6, cell_of_row _ _ 4 _ _ _ x6, cell_of_row _ _ 5 _ _ _ x6, hy⟩
  exact hh.keep (by simp) (fun g _ hP => ⟨Nat.le_of_lt hP, ko3 U b0 u v z g (by have hP' : b0 < g := hP; omega)⟩)
set_option maxRecDepth 100000 in
set_option maxHeartbeats 4000000 in
theorem read_bs (n : Nat) (s : ByteArray) (rest : List Nat) (w : World) (h9 : n ≤ 9) (hs : nb s = tx (bs (n : Int)) ++ rest) : Calls Try.prog 41 #[.string s] w fun e w' => RdQ 1 (bs (n : Int)) rest w e w' := by
  rw [tx_bs, List.singleton_append, Int.toNat_natCast] at hs
  obtain ⟨g0, hc, hn⟩ := nb_head hs
  have g0' : (0 : Int) < (s.size : Int) := by omega
  have g1' : (1 : Int) ≤ (s.size : Int) := by omega
  have hne : ((97 + (n : Int)) != 40) = true := by simp; omega
  have hwp : IntKind.u8.wrap (97 + (n : Int) - 97) = (n : Int) := by rw [show 97 + (n : Int) - 97 = n by omega]; exact u8_wrap n (by omega)
  have hwq : IntKind.i64.wrap (n : Int) = (n : Int) := wrap_id (by omega) (by omega)
  clear hs
  go_enter Try.func41, Try.ntmps41
  go_upto_region 2 with fail
  have hVb : Below w.heap.size w (w.alloc (.cells #[.int .i64 0, .int .i64 0, .slice none 0 0] 24)) := (Below.refl _ w).alloc (Nat.le_refl _) _
  have x1 := heap_alloc_new w (.cells #[.int .i64 0, .int .i64 0, .slice none 0 0] 24)
  generalize hV : w.alloc (.cells #[.int .i64 0, .int .i64 0, .slice none 0 0] 24) = V at *
  clear hV
  refine wp_region_held_drew (S := fun _ => True) (by kernel_rfl) (trivial) (fun hHeld => ?_)
  have x1 : V.drew.heap[w.heap.size]? = _ := x1
  have hVb := hVb.trans ((Below.refl _ V).drew.mono hVb.size)
  generalize hV : V.drew = V0 at *
  clear hV
  have i0 := cell_of_row _ _ 0 _ _ _ x1
  have i1 := cell_of_row _ _ 1 _ _ _ x1
  have i2 := cell_of_row _ _ 2 _ _ _ x1
  have f0 := frozen_of_row _ _ 0 _ 24 x1
  have f1 := frozen_of_row _ _ 1 _ 24 x1
  have f2 := frozen_of_row _ _ 2 _ 24 x1
  refine wpAnyH_take (i := 0) (oi := { dst := some 11, op := Op.move (Operand.tmp 0), type := 9, pos := "text.go:47", after := #[], guard := none }) (v := ?_) rfl (by kernel_rfl) (by kernel_rfl) (by kernel_rfl) (fun _ _ _ h => h) (Or.inl ⟨by rfl, ?_⟩) (by assumption) ?_
  case refine_2 => intro w hSw; (try dsimp only at hSw); go_simp; (try with_reducible rfl)
  simp only [Act.put, List.setIfInBounds_toArray, List.set_cons_zero, List.set_cons_succ]
  refine wpAnyH_take (i := 1) (oi := { dst := some 12, op := Op.index 9 (Operand.tmp 11) (Operand.const (Value.int IntKind.i64 0)), type := 5, pos := "text.go:47", after := #[{ on := 0, ground := Ground.data }], guard := none }) (v := ?_) rfl (by kernel_rfl) (by kernel_rfl) (by kernel_rfl) (fun _ _ _ h => h) (Or.inl ⟨by rfl, ?_⟩) (by assumption) ?_
  case refine_2 => intro w hSw; (try dsimp only at hSw); go_simp; (try with_reducible rfl)
  simp only [Act.put, List.setIfInBounds_toArray, List.set_cons_zero, List.set_cons_succ]
  refine wpAnyH_take (i := 2) (oi := { dst := some 13, op := Op.binOp BinOp.sub 5 (Operand.tmp 12) (Operand.const (Value.int IntKind.u8 97)) 5, type := 5, pos := "text.go:47", after := #[{ on := 1, ground := Ground.data }], guard := none }) (v := ?_) rfl (by kernel_rfl) (by kernel_rfl) (by kernel_rfl) (fun _ _ _ h => h) (Or.inl ⟨by rfl, ?_⟩) (by assumption) ?_
  case refine_2 => intro w hSw; (try dsimp only at hSw); go_simp; (try with_reducible rfl)
  simp only [Act.put, List.setIfInBounds_toArray, List.set_cons_zero, List.set_cons_succ]
  refine wpAnyH_take (i := 3) (oi := { dst := some 14, op := Op.convert 5 3 (Operand.tmp 13), type := 3, pos := "text.go:47", after := #[{ on := 2, ground := Ground.data }], guard := none }) (v := ?_) rfl (by kernel_rfl) (by kernel_rfl) (by kernel_rfl) (fun _ _ _ h => h) (Or.inl ⟨by rfl, ?_⟩) (by assumption) ?_
  case refine_2 => intro w hSw; (try dsimp only at hSw); go_simp; (try with_reducible rfl)
  simp only [Act.put, List.setIfInBounds_toArray, List.set_cons_zero, List.set_cons_succ]
  refine wpAnyH_take (i := 4) (oi := { dst := some 15, op := Op.build 24 #[(0, Operand.const (Value.int IntKind.i64 1)), (1, Operand.tmp 14)], type := 24, pos := "text.go:47", after := #[{ on := 3, ground := Ground.data }], guard := none }) (v := ?_) rfl (by kernel_rfl) (by kernel_rfl) (by kernel_rfl) (fun _ _ _ h => h) (Or.inl ⟨by rfl, ?_⟩) (by assumption) ?_
  case refine_2 => intro w hSw; (try dsimp only at hSw); go_simp; (try with_reducible rfl)
  simp only [Act.put, List.setIfInBounds_toArray, List.set_cons_zero, List.set_cons_succ]
  refine wpAnyH_take (i := 5) (oi := { dst := some 16, op := Op.move (Operand.tmp 0), type := 9, pos := "text.go:47", after := #[], guard := none }) (v := ?_) rfl (by kernel_rfl) (by kernel_rfl) (by kernel_rfl) (fun _ _ _ h => h) (Or.inl ⟨by rfl, ?_⟩) (by assumption) ?_
  case refine_2 => intro w hSw; (try dsimp only at hSw); go_simp; (try with_reducible rfl)
  simp only [Act.put, List.setIfInBounds_toArray, List.set_cons_zero, List.set_cons_succ]
  refine wpAnyH_take (i := 6) (oi := { dst := some 17, op := Op.slice 9 (Operand.tmp 16) (some (Operand.const (Value.int IntKind.i64 1))) none none, type := 9, pos := "text.go:47", after := #[{ on := 5, ground := Ground.data }], guard := none }) (v := ?_) rfl (by kernel_rfl) (by kernel_rfl) (by kernel_rfl) (fun _ _ _ h => h) (Or.inl ⟨by rfl, ?_⟩) (by assumption) ?_
  case refine_2 => intro w hSw; (try dsimp only at hSw); go_simp; (try with_reducible rfl)
  simp only [Act.put, List.setIfInBounds_toArray, List.set_cons_zero, List.set_cons_succ]
  refine wpAnyH_ready (rs := [7]) (by kernel_rfl) (by simp) ?_
  refine (AllReadyH.cons (o := { dst := none, op := Op.store 24 (Operand.tmp 2) (Operand.tmp 15), type := 0, pos := "text.go:47", after := #[{ on := 4, ground := Ground.data }, { on := 0, ground := Ground.phase }, { on := 1, ground := Ground.phase }, { on := 2, ground := Ground.phase }, { on := 3, ground := Ground.phase }, { on := 4, ground := Ground.phase }, { on := 5, ground := Ground.textOnly Departure.lateStores }, { on := 6, ground := Ground.textOnly Departure.lateStoresUnsure }], guard := none }) rfl (fun K hK => ?_) AllReadyH.nil)
  go_simp
  refine hK.out _ _ ?_ (fun hHeld => ?_)
  · exact trivial
  clear hK K
  try simp only [Act.put, List.setIfInBounds_toArray, List.set_cons_zero, List.set_cons_succ]
  refine wpAnyH_take (i := 8) (oi := { dst := some 3, op := Op.assign (Operand.tmp 17), type := 9, pos := "text.go:47", after := #[{ on := 6, ground := Ground.data }, { on := 7, ground := Ground.chain }, { on := 0, ground := Ground.phase }, { on := 1, ground := Ground.phase }, { on := 2, ground := Ground.phase }, { on := 3, ground := Ground.phase }, { on := 4, ground := Ground.phase }, { on := 5, ground := Ground.phase }, { on := 6, ground := Ground.phase }, { on := 7, ground := Ground.phase }], guard := none }) (v := ?_) rfl (by kernel_rfl) (by kernel_rfl) (by kernel_rfl) (fun _ _ _ h => h) (Or.inl ⟨by rfl, ?_⟩) (by assumption) ?_
  case refine_2 => intro w hSw; (try dsimp only at hSw); go_simp; (try with_reducible rfl)
  simp only [Act.put, List.setIfInBounds_toArray, List.set_cons_zero, List.set_cons_succ]
  refine wpAnyH_done (by kernel_rfl) ?_ _
  go_wp2_with fail
  have hl3 := laid_box x1 1 (n : Int) none 0 0
  refine bodyPost_ret (results_row_tmp rfl _ _ w.heap.size 24 _ (0, 0) _ rfl hl3 Try.underlying24 rfl size24) rfl ⟨none, 0, s.extract 1 s.size, rfl, hn, ?_, ?_⟩
  · exact ⟨by unfold i64B bs; dsimp only; omega, by unfold i64B bs; dsimp only; omega, Nat.zero_le _, .inl rfl⟩
  · exact ((hVb.setCell (p := ⟨w.heap.size, 0, none⟩) (Nat.le_refl _) _).setCell (p := ⟨w.heap.size, 1, none⟩) (Nat.le_refl _) _).setCell (p := ⟨w.heap.size, 2, none⟩) (Nat.le_refl _) _
set_option maxRecDepth 100000 in
set_option maxHeartbeats 4000000 in
theorem read_any : ∀ (n : Nat) (p : Ty) (s : ByteArray) (rest : List Nat) (w : World), sz p ≤ n → Gp p → nb s = tx p ++ rest → Calls Try.prog 41 #[.string s] w fun e w' => RdQ n p rest w e w' := by
  intro n
  induction n with
  | zero => intro p s rest w hs; rw [sz] at hs; omega
  | succ n ih =>
    intro p s rest w hsz hp hs
    rcases gp_cases hp with ⟨k, rfl, h0, h9⟩ | ⟨x, y, rfl, hx, hy⟩ | ⟨y, x, rfl, hy, hx⟩
    · obtain ⟨m, rfl⟩ : ∃ m : Nat, k = (m : Int) := ⟨k.toNat, by omega⟩
      refine (read_bs m s rest w (by omega) hs).mono ?_
      rintro e w' ⟨a, c, s', he, hs', hT, hb⟩
      exact ⟨a, c, s', he, hs', hT.upto (by omega), hb⟩
    · rw [sz_ov] at hsz
      rw [tx_ov] at hs
      simp only [List.cons_append, List.append_assoc, List.nil_append] at hs
      obtain ⟨g0, hc, hn⟩ := nb_head hs
      have g0' : (0 : Int) < (s.size : Int) := by omega
      have g1' : (1 : Int) ≤ (s.size : Int) := by omega
      have K1 := fun W => ih x (s.extract 1 s.size) _ W (by omega) hx hn
      have HIH : Hid (∀ (s : ByteArray) (rest : List Nat) (w : World), nb s = tx y ++ rest → Calls Try.prog 41 #[.string s] w fun e w' => RdQ n y rest w e w') := fun s rest w h => ih y s rest w (by omega) hy h
      clear hs hn ih
      go_enter Try.func41, Try.ntmps41
      go_upto_region 3 with fail
      have hVb : Below w.heap.size w (w.alloc (.cells #[.int .i64 0, .int .i64 0, .slice none 0 0] 24)) := (Below.refl _ w).alloc (Nat.le_refl _) _
      have x1 := heap_alloc_new w (.cells #[.int .i64 0, .int .i64 0, .slice none 0 0] 24)
      have HV : Hid ((w.alloc (.cells #[.int .i64 0, .int .i64 0, .slice none 0 0] 24)).heap.size = w.heap.size + 1) := (by show _ = _; simp)
      have K1 := K1 (w.alloc (.cells #[.int .i64 0, .int .i64 0, .slice none 0 0] 24))
      generalize hV : w.alloc (.cells #[.int .i64 0, .int .i64 0, .slice none 0 0] 24) = V at *
      clear hV
      go_upto_region 4 with (go_at_call 41; (with_reducible refine K1.mono ?_); rintro e1 w1 ⟨a1, c1, s1, rfl, hs1, hT1, hb1⟩; clear K1; unfold vty)
      have hbn : Below w1.heap.size w1 (w1.alloc (.cells #[.int .i64 x.kind, .int .i64 x.n, .slice a1 x.kids.length c1] 24)) := (Below.refl _ w1).alloc (Nat.le_refl _) _
      have x4 := heap_alloc_new w1 (.cells #[.int .i64 x.kind, .int .i64 x.n, .slice a1 x.kids.length c1] 24)
      have hb2 := hb1.trans (hbn.mono hb1.size)
      have x1 := (hb2.block _ (lt_of_get x1)).trans x1
      have HT1 : Hid (TyP (fun g => V.heap.size ≤ g) (w1.alloc (.cells #[.int .i64 x.kind, .int .i64 x.n, .slice a1 x.kids.length c1] 24)) n x a1 c1) := hT1.below hbn
      have HB4 : Hid (V.heap.size ≤ w1.heap.size) := hb1.size
      clear hT1 hb1 hbn
      generalize hV : w1.alloc (.cells #[.int .i64 x.kind, .int .i64 x.n, .slice a1 x.kids.length c1] 24) = W2 at *
      clear hV
      generalize w1.heap.size = B4 at *
      have hB2 := hVb.trans (hb2.mono hVb.size)
      obtain ⟨g2, hc2, hn1⟩ := nb_head hs1
      have g2' : (0 : Int) < (s1.size : Int) := by omega
      have g3' : (1 : Int) ≤ (s1.size : Int) := by omega
      have K2 := HIH.out (s1.extract 1 s1.size) _ W2 hn1
      clear hs1 hn1 HIH
      go_upto_region 7 with fail
      go_upto_region 8 with (go_at_call 41; (with_reducible refine K2.mono ?_); rintro e2 w3 ⟨a2, c2, s2, rfl, hs2, hT2, hb3⟩; clear K2; unfold vty)
      have hbn : Below w3.heap.size w3 (w3.alloc (.cells #[.int .i64 y.kind, .int .i64 y.n, .slice a2 y.kids.length c2] 24)) := (Below.refl _ w3).alloc (Nat.le_refl _) _
      have x7 := heap_alloc_new w3 (.cells #[.int .i64 y.kind, .int .i64 y.n, .slice a2 y.kids.length c2] 24)
      have hb4 := hb3.trans (hbn.mono hb3.size)
      have x5 := (hb4.block _ (lt_of_get x1)).trans x1
      have x4 := (hb4.block _ (lt_of_get x4)).trans x4
      have HT1 : Hid (TyP (fun g => V.heap.size ≤ g) (w3.alloc (.cells #[.int .i64 y.kind, .int .i64 y.n, .slice a2 y.kids.length c2] 24)) n x a1 c1) := HT1.out.below hb4
      have HT2 : Hid (TyP (fun g => V.heap.size ≤ g) (w3.alloc (.cells #[.int .i64 y.kind, .int .i64 y.n, .slice a2 y.kids.length c2] 24)) n y a2 c2) := (hT2.below hbn).keep (Nat.le_refl _) (fun g _ hP => ⟨by have hP' : W2.heap.size ≤ g := hP; have := hb2.size; omega, rfl⟩)
      have HB7 : Hid (V.heap.size ≤ w3.heap.size) := Nat.le_trans hb2.size hb3.size
      have hb5 := hB2.trans (hb4.mono hB2.size)
      have hs4 : V.heap.size ≤ (w3.alloc (.cells #[.int .i64 y.kind, .int .i64 y.n, .slice a2 y.kids.length c2] 24)).heap.size := Nat.le_trans hb2.size hb4.size
      clear hT2 hb3 hbn hb4 x1
      generalize hV : w3.alloc (.cells #[.int .i64 y.kind, .int .i64 y.n, .slice a2 y.kids.length c2] 24) = W4 at *
      clear hV
      generalize w3.heap.size = B7 at *
      have hl4 := lt_of_get x4
      have hl7 := lt_of_get x7
      have hn4 : B4 ≠ w.heap.size := by have := HB4.out; have := HV.out; omega
      have hn7 : B7 ≠ w.heap.size := by have := HB7.out; have := HV.out; omega
      obtain ⟨g4, _, hn2⟩ := nb_head hs2
      have g4' : (1 : Int) ≤ (s2.size : Int) := by omega
      have p0 := cell_of_row _ _ 0 _ _ _ x4
      have p1 := cell_of_row _ _ 1 _ _ _ x4
      have p2 := cell_of_row _ _ 2 _ _ _ x4
      have q0 := cell_of_row _ _ 0 _ _ _ x7
      have q1 := cell_of_row _ _ 1 _ _ _ x7
      have q2 := cell_of_row _ _ 2 _ _ _ x7
      clear hs2 x4 x7
      refine wp_region_held_drew (S := fun W => W.cell? ⟨B4, 0, none⟩ = some (.int .i64 x.kind) ∧ W.cell? ⟨B4, 1, none⟩ = some (.int .i64 x.n) ∧ W.cell? ⟨B4, 2, none⟩ = some (.slice a1 x.kids.length c1) ∧ W.cell? ⟨B7, 0, none⟩ = some (.int .i64 y.kind) ∧ W.cell? ⟨B7, 1, none⟩ = some (.int .i64 y.n) ∧ W.cell? ⟨B7, 2, none⟩ = some (.slice a2 y.kids.length c2)) (by kernel_rfl) (by exact ⟨p0, p1, p2, q0, q1, q2⟩) (fun hHeld => ?_)
      have x5 : W4.drew.heap[w.heap.size]? = _ := x5
      have hb5 := hb5.trans ((Below.refl _ W4).drew.mono hb5.size)
      have T1 : Hid (TyP (fun g => V.heap.size ≤ g) W4.drew n x a1 c1) := HT1.out.below (Below.refl _ W4).drew
      have T2 : Hid (TyP (fun g => V.heap.size ≤ g) W4.drew n y a2 c2) := HT2.out.below (Below.refl _ W4).drew
      have hsV : V.heap.size ≤ W4.drew.heap.size := hs4
      have hl4 : B4 < W4.drew.heap.size := hl4
      have hl7 : B7 < W4.drew.heap.size := hl7
      clear HT1 HT2 hs4
      generalize hV : W4.drew = V0 at *
      clear hV
      have hba : Below V0.heap.size V0 (V0.alloc (.cells #[.int .i64 x.kind, .int .i64 x.n, .slice a1 x.kids.length c1, .int .i64 y.kind, .int .i64 y.n, .slice a2 y.kids.length c2] 24)) := (Below.refl _ V0).alloc (Nat.le_refl _) _
      refine wpAnyH_take (i := 0) (oi := { dst := some 33, op := Op.move (Operand.tmp 6), type := 3, pos := "text.go:55", after := #[], guard := none }) (v := ?_) rfl (by kernel_rfl) (by kernel_rfl) (by kernel_rfl) (fun _ _ _ h => h) (Or.inl ⟨by rfl, ?_⟩) (by assumption) ?_
      case refine_2 => intro w hSw; (try dsimp only at hSw); obtain ⟨g0, g1, g2, g3, g4, g5⟩ := hSw; go_simp; (try with_reducible rfl)
      simp only [Act.put, List.setIfInBounds_toArray, List.set_cons_zero, List.set_cons_succ]
      refine wpAnyH_take (i := 1) (oi := { dst := some 34, op := Op.load 24 (Operand.tmp 4), type := 24, pos := "text.go:55", after := #[], guard := none }) (v := ?_) rfl (by kernel_rfl) (by kernel_rfl) (by kernel_rfl) (fun _ _ _ h => h) (Or.inl ⟨by rfl, ?_⟩) (by assumption) ?_
      case refine_2 => intro w hSw; (try dsimp only at hSw); obtain ⟨g0, g1, g2, g3, g4, g5⟩ := hSw; go_simp; (try with_reducible rfl)
      simp only [Act.put, List.setIfInBounds_toArray, List.set_cons_zero, List.set_cons_succ]
      refine wpAnyH_take (i := 2) (oi := { dst := some 35, op := Op.load 24 (Operand.tmp 7), type := 24, pos := "text.go:55", after := #[], guard := none }) (v := ?_) rfl (by kernel_rfl) (by kernel_rfl) (by kernel_rfl) (fun _ _ _ h => h) (Or.inl ⟨by rfl, ?_⟩) (by assumption) ?_
      case refine_2 => intro w hSw; (try dsimp only at hSw); obtain ⟨g0, g1, g2, g3, g4, g5⟩ := hSw; go_simp; (try with_reducible rfl)
      simp only [Act.put, List.setIfInBounds_toArray, List.set_cons_zero, List.set_cons_succ]
      refine wpAnyH_take (i := 5) (oi := { dst := some 38, op := Op.move (Operand.tmp 5), type := 9, pos := "text.go:55", after := #[], guard := none }) (v := ?_) rfl (by kernel_rfl) (by kernel_rfl) (by kernel_rfl) (fun _ _ _ h => h) (Or.inl ⟨by rfl, ?_⟩) (by assumption) ?_
      case refine_2 => intro w hSw; (try dsimp only at hSw); obtain ⟨g0, g1, g2, g3, g4, g5⟩ := hSw; go_simp; (try with_reducible rfl)
      simp only [Act.put, List.setIfInBounds_toArray, List.set_cons_zero, List.set_cons_succ]
      refine wpAnyH_take (i := 6) (oi := { dst := some 39, op := Op.slice 9 (Operand.tmp 38) (some (Operand.const (Value.int IntKind.i64 1))) none none, type := 9, pos := "text.go:55", after := #[{ on := 5, ground := Ground.data }], guard := none }) (v := ?_) rfl (by kernel_rfl) (by kernel_rfl) (by kernel_rfl) (fun _ _ _ h => h) (Or.inl ⟨by rfl, ?_⟩) (by assumption) ?_
      case refine_2 => intro w hSw; (try dsimp only at hSw); obtain ⟨g0, g1, g2, g3, g4, g5⟩ := hSw; go_simp; (try with_reducible rfl)
      simp only [Act.put, List.setIfInBounds_toArray, List.set_cons_zero, List.set_cons_succ]
      refine wpAnyH_ready (rs := [3]) (by kernel_rfl) (by simp) ?_
      refine (AllReadyH.cons (o := { dst := some 36, op := Op.buildSlice 22 2 #[(0, Operand.tmp 34), (1, Operand.tmp 35)], type := 22, pos := "text.go:55", after := #[{ on := 1, ground := Ground.data }, { on := 2, ground := Ground.data }], guard := none }) rfl (fun K hK => ?_) AllReadyH.nil)
      go_simp
      refine hK.out _ _ ?_ (fun hHeld => ?_)
      · (obtain ⟨h0, h1, h2, h3, h4, h5⟩ := hHeld; exact ⟨(hba.cell (p := ⟨B4, 0, none⟩) hl4).trans h0, (hba.cell (p := ⟨B4, 1, none⟩) hl4).trans h1, (hba.cell (p := ⟨B4, 2, none⟩) hl4).trans h2, (hba.cell (p := ⟨B7, 0, none⟩) hl7).trans h3, (hba.cell (p := ⟨B7, 1, none⟩) hl7).trans h4, (hba.cell (p := ⟨B7, 2, none⟩) hl7).trans h5⟩)
      clear hK K
      try simp only [Act.put, List.setIfInBounds_toArray, List.set_cons_zero, List.set_cons_succ]
      have x6 := heap_alloc_new V0 (.cells #[.int .i64 x.kind, .int .i64 x.n, .slice a1 x.kids.length c1, .int .i64 y.kind, .int .i64 y.n, .slice a2 y.kids.length c2] 24)
      have xU := (hba.block _ (lt_of_get x5)).trans x5
      have hbU := hb5.trans (hba.mono hb5.size)
      have HX : Hid _ := T1.out.below hba
      have HY : Hid _ := T2.out.below hba
      have HB6 : Hid (V.heap.size ≤ V0.heap.size) := hsV
      clear hba x5 hb5 T1 T2
      generalize hV : V0.alloc (.cells #[.int .i64 x.kind, .int .i64 x.n, .slice a1 x.kids.length c1, .int .i64 y.kind, .int .i64 y.n, .slice a2 y.kids.length c2] 24) = U at *
      clear hV
      generalize V0.heap.size = B6 at *
      have i0 := cell_of_row _ _ 0 _ _ _ xU
      have i1 := cell_of_row _ _ 1 _ _ _ xU
      have i2 := cell_of_row _ _ 2 _ _ _ xU
      have f0 := frozen_of_row _ _ 0 _ 24 xU
      have f1 := frozen_of_row _ _ 1 _ 24 xU
      have f2 := frozen_of_row _ _ 2 _ 24 xU
      refine wpAnyH_take (i := 4) (oi := { dst := some 37, op := Op.build 24 #[(0, Operand.tmp 33), (2, Operand.tmp 36)], type := 24, pos := "text.go:55", after := #[{ on := 0, ground := Ground.data }, { on := 3, ground := Ground.data }], guard := none }) (v := ?_) rfl (by kernel_rfl) (by kernel_rfl) (by kernel_rfl) (fun _ _ _ h => h) (Or.inl ⟨by rfl, ?_⟩) (by assumption) ?_
      case refine_2 => intro w hSw; (try dsimp only at hSw); obtain ⟨g0, g1, g2, g3, g4, g5⟩ := hSw; go_simp; (try with_reducible rfl)
      simp only [Act.put, List.setIfInBounds_toArray, List.set_cons_zero, List.set_cons_succ]
      refine wpAnyH_ready (rs := [7]) (by kernel_rfl) (by simp) ?_
      refine (AllReadyH.cons (o := { dst := none, op := Op.store 24 (Operand.tmp 2) (Operand.tmp 37), type := 0, pos := "text.go:55", after := #[{ on := 4, ground := Ground.data }, { on := 0, ground := Ground.phase }, { on := 1, ground := Ground.phase }, { on := 2, ground := Ground.phase }, { on := 3, ground := Ground.phase }, { on := 4, ground := Ground.phase }, { on := 5, ground := Ground.textOnly Departure.lateStores }, { on := 6, ground := Ground.textOnly Departure.lateStoresUnsure }], guard := none }) rfl (fun K hK => ?_) AllReadyH.nil)
      go_simp
      refine hK.out _ _ ?_ (fun hHeld => ?_)
      · (obtain ⟨h0, h1, h2, h3, h4, h5⟩ := hHeld; exact ⟨(cell_same (ko3 U w.heap.size _ _ _ B4 hn4)).trans h0, (cell_same (ko3 U w.heap.size _ _ _ B4 hn4)).trans h1, (cell_same (ko3 U w.heap.size _ _ _ B4 hn4)).trans h2, (cell_same (ko3 U w.heap.size _ _ _ B7 hn7)).trans h3, (cell_same (ko3 U w.heap.size _ _ _ B7 hn7)).trans h4, (cell_same (ko3 U w.heap.size _ _ _ B7 hn7)).trans h5⟩)
      clear hK K
      try simp only [Act.put, List.setIfInBounds_toArray, List.set_cons_zero, List.set_cons_succ]
      refine wpAnyH_take (i := 8) (oi := { dst := some 3, op := Op.assign (Operand.tmp 39), type := 9, pos := "text.go:55", after := #[{ on := 6, ground := Ground.data }, { on := 7, ground := Ground.chain }, { on := 0, ground := Ground.phase }, { on := 1, ground := Ground.phase }, { on := 2, ground := Ground.phase }, { on := 3, ground := Ground.phase }, { on := 4, ground := Ground.phase }, { on := 5, ground := Ground.phase }, { on := 6, ground := Ground.phase }, { on := 7, ground := Ground.phase }], guard := none }) (v := ?_) rfl (by kernel_rfl) (by kernel_rfl) (by kernel_rfl) (fun _ _ _ h => h) (Or.inl ⟨by rfl, ?_⟩) (by assumption) ?_
      case refine_2 => intro w hSw; (try dsimp only at hSw); obtain ⟨g0, g1, g2, g3, g4, g5⟩ := hSw; go_simp; (try with_reducible rfl)
      simp only [Act.put, List.setIfInBounds_toArray, List.set_cons_zero, List.set_cons_succ]
      refine wpAnyH_done (by kernel_rfl) ?_ _
      go_wp2_with fail
      have hl3 := laid_box xU 2 0 (some ⟨B6, 0, none⟩) 2 2
      refine bodyPost_ret (results_row_tmp rfl _ _ w.heap.size 24 _ (0, 0) _ rfl hl3 Try.underlying24 rfl size24) rfl ⟨some ⟨B6, 0, none⟩, 2, s2.extract 1 s2.size, rfl, hn2, ?_, ?_⟩
      · exact kids_laid (ov x y) x y rfl (by unfold i64B ov; dsimp only; omega) (by unfold i64B ov; dsimp only; omega) (by have := HV.out; have := HB6.out; omega) x6 (HX.out.keep (Nat.le_refl _) (fun g _ hP => ⟨by have hP' : V.heap.size ≤ g := hP; have := HV.out; omega, rfl⟩)) (HY.out.keep (Nat.le_refl _) (fun g _ hP => ⟨by have hP' : V.heap.size ≤ g := hP; have := HV.out; omega, rfl⟩)) _ _ _
      · exact ((hbU.setCell (p := ⟨w.heap.size, 0, none⟩) (Nat.le_refl _) _).setCell (p := ⟨w.heap.size, 1, none⟩) (Nat.le_refl _) _).setCell (p := ⟨w.heap.size, 2, none⟩) (Nat.le_refl _) _
    · rw [sz_un] at hsz
      rw [tx_un] at hs
      simp only [List.cons_append, List.append_assoc, List.nil_append] at hs
      obtain ⟨g0, hc, hn⟩ := nb_head hs
      have g0' : (0 : Int) < (s.size : Int) := by omega
      have g1' : (1 : Int) ≤ (s.size : Int) := by omega
      have K1 := fun W => ih y (s.extract 1 s.size) _ W (by omega) hy hn
      have HIH : Hid (∀ (s : ByteArray) (rest : List Nat) (w : World), nb s = tx x ++ rest → Calls Try.prog 41 #[.string s] w fun e w' => RdQ n x rest w e w') := fun s rest w h => ih x s rest w (by omega) hx h
      clear hs hn ih
      go_enter Try.func41, Try.ntmps41
      go_upto_region 3 with fail
      have hVb : Below w.heap.size w (w.alloc (.cells #[.int .i64 0, .int .i64 0, .slice none 0 0] 24)) := (Below.refl _ w).alloc (Nat.le_refl _) _
      have x1 := heap_alloc_new w (.cells #[.int .i64 0, .int .i64 0, .slice none 0 0] 24)
      have HV : Hid ((w.alloc (.cells #[.int .i64 0, .int .i64 0, .slice none 0 0] 24)).heap.size = w.heap.size + 1) := (by show _ = _; simp)
      have K1 := K1 (w.alloc (.cells #[.int .i64 0, .int .i64 0, .slice none 0 0] 24))
      generalize hV : w.alloc (.cells #[.int .i64 0, .int .i64 0, .slice none 0 0] 24) = V at *
      clear hV
      go_upto_region 4 with (go_at_call 41; (with_reducible refine K1.mono ?_); rintro e1 w1 ⟨a1, c1, s1, rfl, hs1, hT1, hb1⟩; clear K1; unfold vty)
      have hbn : Below w1.heap.size w1 (w1.alloc (.cells #[.int .i64 y.kind, .int .i64 y.n, .slice a1 y.kids.length c1] 24)) := (Below.refl _ w1).alloc (Nat.le_refl _) _
      have x4 := heap_alloc_new w1 (.cells #[.int .i64 y.kind, .int .i64 y.n, .slice a1 y.kids.length c1] 24)
      have hb2 := hb1.trans (hbn.mono hb1.size)
      have x1 := (hb2.block _ (lt_of_get x1)).trans x1
      have HT1 : Hid (TyP (fun g => V.heap.size ≤ g) (w1.alloc (.cells #[.int .i64 y.kind, .int .i64 y.n, .slice a1 y.kids.length c1] 24)) n y a1 c1) := hT1.below hbn
      have HB4 : Hid (V.heap.size ≤ w1.heap.size) := hb1.size
      clear hT1 hb1 hbn
      generalize hV : w1.alloc (.cells #[.int .i64 y.kind, .int .i64 y.n, .slice a1 y.kids.length c1] 24) = W2 at *
      clear hV
      generalize w1.heap.size = B4 at *
      have hB2 := hVb.trans (hb2.mono hVb.size)
      obtain ⟨g2, hc2, hn1⟩ := nb_head hs1
      have g2' : (0 : Int) < (s1.size : Int) := by omega
      have g3' : (1 : Int) ≤ (s1.size : Int) := by omega
      have K2 := HIH.out (s1.extract 1 s1.size) _ W2 hn1
      clear hs1 hn1 HIH
      go_upto_region 7 with fail
      go_upto_region 8 with (go_at_call 41; (with_reducible refine K2.mono ?_); rintro e2 w3 ⟨a2, c2, s2, rfl, hs2, hT2, hb3⟩; clear K2; unfold vty)
      have hbn : Below w3.heap.size w3 (w3.alloc (.cells #[.int .i64 x.kind, .int .i64 x.n, .slice a2 x.kids.length c2] 24)) := (Below.refl _ w3).alloc (Nat.le_refl _) _
      have x7 := heap_alloc_new w3 (.cells #[.int .i64 x.kind, .int .i64 x.n, .slice a2 x.kids.length c2] 24)
      have hb4 := hb3.trans (hbn.mono hb3.size)
      have x5 := (hb4.block _ (lt_of_get x1)).trans x1
      have x4 := (hb4.block _ (lt_of_get x4)).trans x4
      have HT1 : Hid (TyP (fun g => V.heap.size ≤ g) (w3.alloc (.cells #[.int .i64 x.kind, .int .i64 x.n, .slice a2 x.kids.length c2] 24)) n y a1 c1) := HT1.out.below hb4
      have HT2 : Hid (TyP (fun g => V.heap.size ≤ g) (w3.alloc (.cells #[.int .i64 x.kind, .int .i64 x.n, .slice a2 x.kids.length c2] 24)) n x a2 c2) := (hT2.below hbn).keep (Nat.le_refl _) (fun g _ hP => ⟨by have hP' : W2.heap.size ≤ g := hP; have := hb2.size; omega, rfl⟩)
      have HB7 : Hid (V.heap.size ≤ w3.heap.size) := Nat.le_trans hb2.size hb3.size
      have hb5 := hB2.trans (hb4.mono hB2.size)
      have hs4 : V.heap.size ≤ (w3.alloc (.cells #[.int .i64 x.kind, .int .i64 x.n, .slice a2 x.kids.length c2] 24)).heap.size := Nat.le_trans hb2.size hb4.size
      clear hT2 hb3 hbn hb4 x1
      generalize hV : w3.alloc (.cells #[.int .i64 x.kind, .int .i64 x.n, .slice a2 x.kids.length c2] 24) = W4 at *
      clear hV
      generalize w3.heap.size = B7 at *
      have hl4 := lt_of_get x4
      have hl7 := lt_of_get x7
      have hn4 : B4 ≠ w.heap.size := by have := HB4.out; have := HV.out; omega
      have hn7 : B7 ≠ w.heap.size := by have := HB7.out; have := HV.out; omega
      obtain ⟨g4, _, hn2⟩ := nb_head hs2
      have g4' : (1 : Int) ≤ (s2.size : Int) := by omega
      have p0 := cell_of_row _ _ 0 _ _ _ x4
      have p1 := cell_of_row _ _ 1 _ _ _ x4
      have p2 := cell_of_row _ _ 2 _ _ _ x4
      have q0 := cell_of_row _ _ 0 _ _ _ x7
      have q1 := cell_of_row _ _ 1 _ _ _ x7
      have q2 := cell_of_row _ _ 2 _ _ _ x7
      clear hs2 x4 x7
      refine wp_region_held_drew (S := fun W => W.cell? ⟨B4, 0, none⟩ = some (.int .i64 y.kind) ∧ W.cell? ⟨B4, 1, none⟩ = some (.int .i64 y.n) ∧ W.cell? ⟨B4, 2, none⟩ = some (.slice a1 y.kids.length c1) ∧ W.cell? ⟨B7, 0, none⟩ = some (.int .i64 x.kind) ∧ W.cell? ⟨B7, 1, none⟩ = some (.int .i64 x.n) ∧ W.cell? ⟨B7, 2, none⟩ = some (.slice a2 x.kids.length c2)) (by kernel_rfl) (by exact ⟨p0, p1, p2, q0, q1, q2⟩) (fun hHeld => ?_)
      have x5 : W4.drew.heap[w.heap.size]? = _ := x5
      have hb5 := hb5.trans ((Below.refl _ W4).drew.mono hb5.size)
      have T1 : Hid (TyP (fun g => V.heap.size ≤ g) W4.drew n y a1 c1) := HT1.out.below (Below.refl _ W4).drew
      have T2 : Hid (TyP (fun g => V.heap.size ≤ g) W4.drew n x a2 c2) := HT2.out.below (Below.refl _ W4).drew
      have hsV : V.heap.size ≤ W4.drew.heap.size := hs4
      have hl4 : B4 < W4.drew.heap.size := hl4
      have hl7 : B7 < W4.drew.heap.size := hl7
      clear HT1 HT2 hs4
      generalize hV : W4.drew = V0 at *
      clear hV
      have hba : Below V0.heap.size V0 (V0.alloc (.cells #[.int .i64 y.kind, .int .i64 y.n, .slice a1 y.kids.length c1, .int .i64 x.kind, .int .i64 x.n, .slice a2 x.kids.length c2] 24)) := (Below.refl _ V0).alloc (Nat.le_refl _) _
      refine wpAnyH_take (i := 0) (oi := { dst := some 33, op := Op.move (Operand.tmp 6), type := 3, pos := "text.go:55", after := #[], guard := none }) (v := ?_) rfl (by kernel_rfl) (by kernel_rfl) (by kernel_rfl) (fun _ _ _ h => h) (Or.inl ⟨by rfl, ?_⟩) (by assumption) ?_
      case refine_2 => intro w hSw; (try dsimp only at hSw); obtain ⟨g0, g1, g2, g3, g4, g5⟩ := hSw; go_simp; (try with_reducible rfl)
      simp only [Act.put, List.setIfInBounds_toArray, List.set_cons_zero, List.set_cons_succ]
      refine wpAnyH_take (i := 1) (oi := { dst := some 34, op := Op.load 24 (Operand.tmp 4), type := 24, pos := "text.go:55", after := #[], guard := none }) (v := ?_) rfl (by kernel_rfl) (by kernel_rfl) (by kernel_rfl) (fun _ _ _ h => h) (Or.inl ⟨by rfl, ?_⟩) (by assumption) ?_
      case refine_2 => intro w hSw; (try dsimp only at hSw); obtain ⟨g0, g1, g2, g3, g4, g5⟩ := hSw; go_simp; (try with_reducible rfl)
      simp only [Act.put, List.setIfInBounds_toArray, List.set_cons_zero, List.set_cons_succ]
      refine wpAnyH_take (i := 2) (oi := { dst := some 35, op := Op.load 24 (Operand.tmp 7), type := 24, pos := "text.go:55", after := #[], guard := none }) (v := ?_) rfl (by kernel_rfl) (by kernel_rfl) (by kernel_rfl) (fun _ _ _ h => h) (Or.inl ⟨by rfl, ?_⟩) (by assumption) ?_
      case refine_2 => intro w hSw; (try dsimp only at hSw); obtain ⟨g0, g1, g2, g3, g4, g5⟩ := hSw; go_simp; (try with_reducible rfl)
      simp only [Act.put, List.setIfInBounds_toArray, List.set_cons_zero, List.set_cons_succ]
      refine wpAnyH_take (i := 5) (oi := { dst := some 38, op := Op.move (Operand.tmp 5), type := 9, pos := "text.go:55", after := #[], guard := none }) (v := ?_) rfl (by kernel_rfl) (by kernel_rfl) (by kernel_rfl) (fun _ _ _ h => h) (Or.inl ⟨by rfl, ?_⟩) (by assumption) ?_
      case refine_2 => intro w hSw; (try dsimp only at hSw); obtain ⟨g0, g1, g2, g3, g4, g5⟩ := hSw; go_simp; (try with_reducible rfl)
      simp only [Act.put, List.setIfInBounds_toArray, List.set_cons_zero, List.set_cons_succ]
      refine wpAnyH_take (i := 6) (oi := { dst := some 39, op := Op.slice 9 (Operand.tmp 38) (some (Operand.const (Value.int IntKind.i64 1))) none none, type := 9, pos := "text.go:55", after := #[{ on := 5, ground := Ground.data }], guard := none }) (v := ?_) rfl (by kernel_rfl) (by kernel_rfl) (by kernel_rfl) (fun _ _ _ h => h) (Or.inl ⟨by rfl, ?_⟩) (by assumption) ?_
      case refine_2 => intro w hSw; (try dsimp only at hSw); obtain ⟨g0, g1, g2, g3, g4, g5⟩ := hSw; go_simp; (try with_reducible rfl)
      simp only [Act.put, List.setIfInBounds_toArray, List.set_cons_zero, List.set_cons_succ]
      refine wpAnyH_ready (rs := [3]) (by kernel_rfl) (by simp) ?_
      refine (AllReadyH.cons (o := { dst := some 36, op := Op.buildSlice 22 2 #[(0, Operand.tmp 34), (1, Operand.tmp 35)], type := 22, pos := "text.go:55", after := #[{ on := 1, ground := Ground.data }, { on := 2, ground := Ground.data }], guard := none }) rfl (fun K hK => ?_) AllReadyH.nil)
      go_simp
      refine hK.out _ _ ?_ (fun hHeld => ?_)
      · (obtain ⟨h0, h1, h2, h3, h4, h5⟩ := hHeld; exact ⟨(hba.cell (p := ⟨B4, 0, none⟩) hl4).trans h0, (hba.cell (p := ⟨B4, 1, none⟩) hl4).trans h1, (hba.cell (p := ⟨B4, 2, none⟩) hl4).trans h2, (hba.cell (p := ⟨B7, 0, none⟩) hl7).trans h3, (hba.cell (p := ⟨B7, 1, none⟩) hl7).trans h4, (hba.cell (p := ⟨B7, 2, none⟩) hl7).trans h5⟩)
      clear hK K
      try simp only [Act.put, List.setIfInBounds_toArray, List.set_cons_zero, List.set_cons_succ]
      have x6 := heap_alloc_new V0 (.cells #[.int .i64 y.kind, .int .i64 y.n, .slice a1 y.kids.length c1, .int .i64 x.kind, .int .i64 x.n, .slice a2 x.kids.length c2] 24)
      have xU := (hba.block _ (lt_of_get x5)).trans x5
      have hbU := hb5.trans (hba.mono hb5.size)
      have HX : Hid _ := T1.out.below hba
      have HY : Hid _ := T2.out.below hba
      have HB6 : Hid (V.heap.size ≤ V0.heap.size) := hsV
      clear hba x5 hb5 T1 T2
      generalize hV : V0.alloc (.cells #[.int .i64 y.kind, .int .i64 y.n, .slice a1 y.kids.length c1, .int .i64 x.kind, .int .i64 x.n, .slice a2 x.kids.length c2] 24) = U at *
      clear hV
      generalize V0.heap.size = B6 at *
      have i0 := cell_of_row _ _ 0 _ _ _ xU
      have i1 := cell_of_row _ _ 1 _ _ _ xU
      have i2 := cell_of_row _ _ 2 _ _ _ xU
      have f0 := frozen_of_row _ _ 0 _ 24 xU
      have f1 := frozen_of_row _ _ 1 _ 24 xU
      have f2 := frozen_of_row _ _ 2 _ 24 xU
      refine wpAnyH_take (i := 4) (oi := { dst := some 37, op := Op.build 24 #[(0, Operand.tmp 33), (2, Operand.tmp 36)], type := 24, pos := "text.go:55", after := #[{ on := 0, ground := Ground.data }, { on := 3, ground := Ground.data }], guard := none }) (v := ?_) rfl (by kernel_rfl) (by kernel_rfl) (by kernel_rfl) (fun _ _ _ h => h) (Or.inl ⟨by rfl, ?_⟩) (by assumption) ?_
      case refine_2 => intro w hSw; (try dsimp only at hSw); obtain ⟨g0, g1, g2, g3, g4, g5⟩ := hSw; go_simp; (try with_reducible rfl)
      simp only [Act.put, List.setIfInBounds_toArray, List.set_cons_zero, List.set_cons_succ]
      refine wpAnyH_ready (rs := [7]) (by kernel_rfl) (by simp) ?_
      refine (AllReadyH.cons (o := { dst := none, op := Op.store 24 (Operand.tmp 2) (Operand.tmp 37), type := 0, pos := "text.go:55", after := #[{ on := 4, ground := Ground.data }, { on := 0, ground := Ground.phase }, { on := 1, ground := Ground.phase }, { on := 2, ground := Ground.phase }, { on := 3, ground := Ground.phase }, { on := 4, ground := Ground.phase }, { on := 5, ground := Ground.textOnly Departure.lateStores }, { on := 6, ground := Ground.textOnly Departure.lateStoresUnsure }], guard := none }) rfl (fun K hK => ?_) AllReadyH.nil)
      go_simp
      refine hK.out _ _ ?_ (fun hHeld => ?_)
      · (obtain ⟨h0, h1, h2, h3, h4, h5⟩ := hHeld; exact ⟨(cell_same (ko3 U w.heap.size _ _ _ B4 hn4)).trans h0, (cell_same (ko3 U w.heap.size _ _ _ B4 hn4)).trans h1, (cell_same (ko3 U w.heap.size _ _ _ B4 hn4)).trans h2, (cell_same (ko3 U w.heap.size _ _ _ B7 hn7)).trans h3, (cell_same (ko3 U w.heap.size _ _ _ B7 hn7)).trans h4, (cell_same (ko3 U w.heap.size _ _ _ B7 hn7)).trans h5⟩)
      clear hK K
      try simp only [Act.put, List.setIfInBounds_toArray, List.set_cons_zero, List.set_cons_succ]
      refine wpAnyH_take (i := 8) (oi := { dst := some 3, op := Op.assign (Operand.tmp 39), type := 9, pos := "text.go:55", after := #[{ on := 6, ground := Ground.data }, { on := 7, ground := Ground.chain }, { on := 0, ground := Ground.phase }, { on := 1, ground := Ground.phase }, { on := 2, ground := Ground.phase }, { on := 3, ground := Ground.phase }, { on := 4, ground := Ground.phase }, { on := 5, ground := Ground.phase }, { on := 6, ground := Ground.phase }, { on := 7, ground := Ground.phase }], guard := none }) (v := ?_) rfl (by kernel_rfl) (by kernel_rfl) (by kernel_rfl) (fun _ _ _ h => h) (Or.inl ⟨by rfl, ?_⟩) (by assumption) ?_
      case refine_2 => intro w hSw; (try dsimp only at hSw); obtain ⟨g0, g1, g2, g3, g4, g5⟩ := hSw; go_simp; (try with_reducible rfl)
      simp only [Act.put, List.setIfInBounds_toArray, List.set_cons_zero, List.set_cons_succ]
      refine wpAnyH_done (by kernel_rfl) ?_ _
      go_wp2_with fail
      have hl3 := laid_box xU 3 0 (some ⟨B6, 0, none⟩) 2 2
      refine bodyPost_ret (results_row_tmp rfl _ _ w.heap.size 24 _ (0, 0) _ rfl hl3 Try.underlying24 rfl size24) rfl ⟨some ⟨B6, 0, none⟩, 2, s2.extract 1 s2.size, rfl, hn2, ?_, ?_⟩
      · exact kids_laid (un y x) y x rfl (by unfold i64B un; dsimp only; omega) (by unfold i64B un; dsimp only; omega) (by have := HV.out; have := HB6.out; omega) x6 (HX.out.keep (Nat.le_refl _) (fun g _ hP => ⟨by have hP' : V.heap.size ≤ g := hP; have := HV.out; omega, rfl⟩)) (HY.out.keep (Nat.le_refl _) (fun g _ hP => ⟨by have hP' : V.heap.size ≤ g := hP; have := HV.out; omega, rfl⟩)) _ _ _
      · exact ((hbU.setCell (p := ⟨w.heap.size, 0, none⟩) (Nat.le_refl _) _).setCell (p := ⟨w.heap.size, 1, none⟩) (Nat.le_refl _) _).setCell (p := ⟨w.heap.size, 2, none⟩) (Nat.le_refl _) _
end Go.Proofs.Ytbmgkgoghgdbhaa.Te
