/- useAll: what comes of an all claim, alone and with others. Conditions: few lines; the claims are of literals. -/
import Derived.Test.YtcnanbimpajonaaCe
import Derived.Deep.RegionHeld3
namespace Go.Proofs.Ytcnanbimpajonaa.Ua
open Go.RowKit Cl Co Cp Mq Nu Ag Cs Ce

theorem wc_sm {c : C} (h : Sm c) : Wc c := by
  have h1 : IntKind.i64.min = -9223372036854775808 := by decide
  have h2 : IntKind.i64.max = 9223372036854775807 := by decide
  have e : ∀ i : Int, -6 ≤ i → i ≤ 6 → W64 i := fun i a b => by
    show (decide (IntKind.i64.min ≤ i) && decide (i ≤ IntKind.i64.max)) = true
    rw [h1, h2]
    simp
    omega
  exact ⟨e _ h.1.1 h.1.2, e _ h.2.1 h.2.2⟩
def box (p : C) : Obj := .cells #[.bool p.1, .int .i64 p.2.1, .int .i64 p.2.2] 24
/-- what stands while claims come: the argument; the box of the claim that is used -/
structure St (base : Nat) (w wx : World) (A mb : Nat) (g : C) (L : List Ln) (b : Nat) (p : C) (vl : Value) (xs : List Int) : Prop where
  arg : Arg base wx A mb g L
  kt : Kt base w wx
  bx : wx.heap[b]? = some (box p)
  ns : IsN wx vl xs
theorem St.cell {base : Nat} {w wx : World} {A mb : Nat} {g : C} {L : List Ln} {b : Nat} {p : C} {vl : Value} {xs : List Int} (h : St base w wx A mb g L b p vl xs) : wx.cell? ⟨b, 0, none⟩ = some (.bool p.1) ∧ wx.cell? ⟨b, 1, none⟩ = some (.int .i64 p.2.1) ∧ wx.cell? ⟨b, 2, none⟩ = some (.int .i64 p.2.2) :=
  ⟨cell_of_row _ _ 0 _ 24 (0, 0) h.bx, cell_of_row _ _ 1 _ 24 (0, 0) h.bx, cell_of_row _ _ 2 _ 24 (0, 0) h.bx⟩
theorem St.lt {base : Nat} {w wx : World} {A mb : Nat} {g : C} {L : List Ln} {b : Nat} {p : C} {vl : Value} {xs : List Int} (h : St base w wx A mb g L b p vl xs) : b < wx.heap.size := (Array.getElem?_eq_some_iff.1 h.bx).1
theorem St.cell3 {base : Nat} {w wx : World} {A mb : Nat} {g : C} {L : List Ln} {b : Nat} {p : C} {vl : Value} {xs : List Int} (h : St base w wx A mb g L b p vl xs) : ∀ o1 o2 o3, (((wx.alloc o1).alloc o2).alloc o3).cell? ⟨b, 0, none⟩ = some (.bool p.1) ∧ (((wx.alloc o1).alloc o2).alloc o3).cell? ⟨b, 1, none⟩ = some (.int .i64 p.2.1) ∧ (((wx.alloc o1).alloc o2).alloc o3).cell? ⟨b, 2, none⟩ = some (.int .i64 p.2.2) := by
  intro o1 o2 o3
  have hl := h.lt
  have e : (((wx.alloc o1).alloc o2).alloc o3).heap[b]? = some (box p) := by
    rw [heap_alloc_old _ _ (by simp; omega), heap_alloc_old _ _ (by simp; omega), heap_alloc_old _ _ hl]
    exact h.bx
  exact ⟨cell_of_row _ _ 0 _ 24 (0, 0) e, cell_of_row _ _ 1 _ 24 (0, 0) e, cell_of_row _ _ 2 _ 24 (0, 0) e⟩
theorem St.goal {base : Nat} {w wx : World} {A mb : Nat} {g : C} {L : List Ln} {b : Nat} {p : C} {vl : Value} {xs : List Int} (h : St base w wx A mb g L b p vl xs) : wx.cell? ⟨A, 0, none⟩ = some (.bool g.1) ∧ wx.cell? ⟨A, 1, none⟩ = some (.int .i64 g.2.1) ∧ wx.cell? ⟨A, 2, none⟩ = some (.int .i64 g.2.2) := by
  obtain ⟨v, n, Z, h⟩ := h.arg
  exact ⟨h.cell.1, h.cell.2.1, h.cell.2.2.1⟩
theorem isC_lit1 {W : World} {g : Nat} {p : C} (h : W.heap[g]? = some (box p)) : IsC W (.slice (some ⟨g, 0, none⟩) 1 1) [p] :=
  ⟨rfl, _, 1, rfl, by simp, .inr ⟨g, 0, rfl, (Array.getElem?_eq_some_iff.1 h).1, fun j u hu => by
    rw [Nat.zero_add, cell_of_row W g j _ 24 (0, 0) h]
    simpa [ccs, cc] using hu⟩⟩
theorem isC_lit2 {W : World} {g : Nat} {p q : C} (h : W.heap[g]? = some (.cells #[.bool p.1, .int .i64 p.2.1, .int .i64 p.2.2, .bool q.1, .int .i64 q.2.1, .int .i64 q.2.2] 24 (0, 0))) : IsC W (.slice (some ⟨g, 0, none⟩) 2 2) [p, q] :=
  ⟨rfl, _, 2, rfl, by simp, .inr ⟨g, 0, rfl, (Array.getElem?_eq_some_iff.1 h).1, fun j u hu => by
    rw [Nat.zero_add, cell_of_row W g j _ 24 (0, 0) h]
    simpa [ccs, cc] using hu⟩⟩
theorem come_st {base : Nat} {w wx W : World} {A mb : Nat} {g : C} {L : List Ln} {b : Nat} {p : C} {vl : Value} {xs : List Int} (r : Int) (c : C) (vo : Value) (of : List C) (h : St base w wx A mb g L b p vl xs) (hW : Below wx.heap.size wx W) (hc : Sm c) (ho : IsC W vo of) (hol : of.length ≤ 2) (hs : ∀ p ∈ of, Sm p) (hl : L.length < 100000) :
    Calls Try.prog 46 #[.pointer (some ⟨A, 0, none⟩), .int .i64 r, vc c, vo] W fun e w' => e = .returned (.tuple #[]) ∧ St base w w' A mb g (comeL L r c of) b p vl xs := by
  refine (come_any base A mb g L r c vo of W (h.arg.below hW) (wc_sm hc) ho hol (fun p hp => ⟨hs p hp, wc_sm (hs p hp)⟩) hl).mono ?_
  rintro e w' ⟨rfl, h1, h2⟩
  exact ⟨rfl, h1, (h.kt.trans (Kt.of_below hW h.arg.le)).trans h2, h2.ty _ _ _ _ ((hW.block b h.lt).trans h.bx) (by decide) (by decide), h2.isN (h.ns.below hW)⟩
theorem put_len (L : List Ln) (r : Int) (c : C) (fr : List Int) : (putL L r c fr).length ≤ L.length + 1 := by
  unfold putL
  split
  · exact Nat.le_succ _
  · simp
theorem come_len (L : List Ln) (r : Int) (c : C) (of : List C) : (comeL L r c of).length ≤ L.length + 1 := by
  unfold comeL
  split
  · exact Nat.le_succ _
  · split
    · exact put_len _ _ _ _
    · exact Nat.le_succ _
theorem one_of {P : C → Prop} {p : C} (h : P p) : ∀ x ∈ [p], P x := fun x hx => by rw [List.mem_singleton] at hx; exact hx ▸ h
theorem two_of {P : C → Prop} {p q : C} (h : P p) (h' : P q) : ∀ x ∈ [p, q], P x := fun x hx => by
  simp only [List.mem_cons, List.not_mem_nil, or_false] at hx
  rcases hx with rfl | rfl
  · exact h
  · exact h'
theorem nw1 (w : World) (a : Obj) : (w.drew.alloc a).heap[w.heap.size]? = some a := heap_alloc_new w.drew a
theorem bl1 (w : World) (a : Obj) : Below w.heap.size w (w.drew.alloc a) := (Below.refl _ w).drew.alloc (Nat.le_refl _) a
theorem bl2 (w : World) (a b : Obj) : Below w.heap.size w ((w.drew.alloc a).alloc b) := (bl1 w a).alloc (by simp) b
theorem bl3 (w : World) (a b c : Obj) : Below w.heap.size w (((w.drew.alloc a).alloc b).alloc c) := (bl2 w a b).alloc (by simp; omega) c
theorem nw21 (w : World) (a b : Obj) : ((w.drew.alloc a).alloc b).heap[w.heap.size]? = some a := by
  rw [heap_alloc_old _ _ (by simp)]
  exact nw1 w a
theorem nw22 (w : World) (a b : Obj) : ((w.drew.alloc a).alloc b).heap[w.heap.size + 1]? = some b := by
  have e : (w.drew.alloc a).heap.size = w.heap.size + 1 := by simp
  rw [← e]
  exact heap_alloc_new _ _
theorem nw32 (w : World) (a b c : Obj) : (((w.drew.alloc a).alloc b).alloc c).heap[w.heap.size + 1]? = some b := by
  rw [heap_alloc_old _ _ (by simp)]
  exact nw22 w a b
theorem nw33 (w : World) (a b c : Obj) : (((w.drew.alloc a).alloc b).alloc c).heap[w.heap.size + 1 + 1]? = some c := by
  have e : ((w.drew.alloc a).alloc b).heap.size = w.heap.size + 1 + 1 := by simp
  rw [← e]
  exact heap_alloc_new _ _

/-- what comes of an all claim, with one more literal -/
def uA (p : C) (L : List Ln) (x : Int) : List Ln :=
  comeL (comeL (comeL (comeL (comeL L 5 (false, p.2.1, x) [p]) 6 (false, x, p.2.2) [p]) 3 (false, p.2.1, x) [p, (false, p.2.2, x)]) 3 (false, x, p.2.2) [(false, x, p.2.1), p]) 9 (true, x, p.2.2) [(true, x, p.2.1), p]
def useAllL (g : C) (L : List Ln) (p : C) : List Ln := lits.foldl (uA p) (comeL (comeL L 4 (false, -p.2.2, -p.2.1) [p]) 10 g [p, (true, p.2.1, -p.2.2)])
theorem uA_len (p : C) (L : List Ln) (x : Int) : (uA p L x).length ≤ L.length + 5 := by
  unfold uA
  refine Nat.le_trans (come_len _ _ _ _) (Nat.succ_le_succ ?_)
  refine Nat.le_trans (come_len _ _ _ _) (Nat.succ_le_succ ?_)
  refine Nat.le_trans (come_len _ _ _ _) (Nat.succ_le_succ ?_)
  refine Nat.le_trans (come_len _ _ _ _) (Nat.succ_le_succ ?_)
  exact come_len _ _ _ _
theorem fold_len {f : List Ln → Int → List Ln} {m : Nat} (hf : ∀ L x, (f L x).length ≤ L.length + m) (xs : List Int) (L : List Ln) : (xs.foldl f L).length ≤ L.length + m * xs.length := by
  induction xs generalizing L with
  | nil => simp
  | cons x xs ih =>
    have h1 := ih (f L x)
    have h2 := hf L x
    simp only [List.foldl_cons, List.length_cons, Nat.mul_add, Nat.mul_one]
    omega
theorem fold_snoc {f : List Ln → Int → List Ln} (L : List Ln) {k : Nat} (h : k < lits.length) : (lits.take (k + 1)).foldl f L = f ((lits.take k).foldl f L) lits[k] := by
  rw [List.take_succ_eq_append_getElem h, List.foldl_append]
  rfl
theorem lits_sm {x : Int} (h : x ∈ lits) : -6 ≤ x ∧ x ≤ 6 := by
  simp only [lits, List.mem_cons, List.not_mem_nil, or_false] at h
  omega

set_option maxHeartbeats 8000000 in
set_option maxRecDepth 100000 in
theorem useAll_any (base A mb : Nat) (g : C) (L : List Ln) (p0 : Bool) (p1 p2 : Int) (w : World) (hA : Arg base w A mb g L) (hp : Sm (p0, p1, p2)) (hg : Sm g) (hl : L.length < 90000) :
    Calls Try.prog 32 #[.pointer (some ⟨A, 0, none⟩), vc (p0, p1, p2)] w fun e w' => e = .returned (.tuple #[]) ∧ Arg base w' A mb g (useAllL g L (p0, p1, p2)) ∧ Kt base w w' := by
  have hb0 : Below w.heap.size w (w.alloc (box (p0, p1, p2))) := (Below.refl _ w).alloc (Nat.le_refl _) _
  have hst : St base w (w.alloc (box (p0, p1, p2))) A mb g L w.heap.size (p0, p1, p2) (.slice none 0 0) [] := ⟨hA.below hb0, Kt.of_below hb0 hA.le, heap_alloc_new w _, none, 0, rfl, .inl ⟨rfl, rfl, rfl⟩⟩
  have n1 := wrap_neg hp.1.1 hp.1.2
  have n2 := wrap_neg hp.2.1 hp.2.2
  have hp1 : -6 ≤ p1 ∧ p1 ≤ 6 := hp.1
  have hp2 : -6 ≤ p2 ∧ p2 ≤ 6 := hp.2
  clear hb0 hA
  unfold vc
  unfold box at hst
  dsimp only at n1 n2 hst ⊢
  go_enter Try.func32, Try.ntmps32
  go_upto_region 1 with fail
  obtain ⟨W0, hW0⟩ : ∃ W, w.alloc (.cells #[.bool p0, .int .i64 p1, .int .i64 p2] 24) = W := ⟨_, rfl⟩
  rw [hW0] at hst ⊢
  clear hW0
  obtain ⟨b, hb⟩ : ∃ b, w.heap.size = b := ⟨_, rfl⟩
  rw [hb] at hst ⊢
  clear hb
  have hS1 : Sm (false, -p2, -p1) := ⟨⟨by show -6 ≤ -p2; omega, by show -p2 ≤ 6; omega⟩, by show -6 ≤ -p1; omega, by show -p1 ≤ 6; omega⟩
  have hS2 : Sm (true, p1, -p2) := ⟨⟨hp1.1, hp1.2⟩, by show -6 ≤ -p2; omega, by show -p2 ≤ 6; omega⟩
  have c0 := hst.cell
  have k3 := hst.cell3
  dsimp only at c0 k3
  have HST : Hid _ := hst
  clear hst
  go_cut [] from 6 to 16 (fun wx => St base w wx A mb g (comeL L 4 (false, -p2, -p1) [(p0, p1, p2)]) b (p0, p1, p2) (.slice none 0 0) [])
  case first =>
    go_region_held3 (fun W => W.cell? ⟨b, 0, none⟩ = some (.bool p0) ∧ W.cell? ⟨b, 1, none⟩ = some (.int .i64 p1) ∧ W.cell? ⟨b, 2, none⟩ = some (.int .i64 p2)) (go_keep) (first | (go_at_call 30; refine (all_any _ _ _).mono ?_; rintro e w' ⟨rfl, rfl⟩) | (go_at_call 47; refine (some_any _ _ _).mono ?_; rintro e w' ⟨rfl, rfl⟩) | (go_at_call 46; refine (come_st 4 (false, -p2, -p1) _ [(p0, p1, p2)] HST.out (by first | exact bl1 _ _ | exact bl2 _ _ _ | exact bl3 _ _ _ _) hS1 (by first | exact isC_lit1 (nw1 _ _) | exact isC_lit1 (nw21 _ _ _) | exact isC_lit1 (nw22 _ _ _) | exact isC_lit1 (nw32 _ _ _ _) | exact isC_lit1 (nw33 _ _ _ _)) (by simp) (one_of (P := Sm) hp) (by omega)).mono ?_; rintro e wz ⟨rfl, hz⟩; have HZ : Hid _ := hz; have cz := hz.cell; have cy := hz.goal; clear hz; dsimp only at cz))
    all_goals
      clear c0 cz cy k3
      go_wp2_with fail
      go_meet
      case rel => exact HZ.out
  case rest =>
  clear c0 k3 HST
  have hleL1 := come_len L 4 (false, -p2, -p1) [(p0, p1, p2)]
  obtain ⟨L1, hEL1⟩ : ∃ l, comeL L 4 (false, -p2, -p1) [(p0, p1, p2)] = l := ⟨_, rfl⟩
  rw [hEL1] at hcut hleL1
  have HEL1 : Hid (comeL L 4 (false, -p2, -p1) [(p0, p1, p2)] = L1) := hEL1
  clear hEL1
  have hst := hcut
  clear hcut
  go_upto_region 2 with fail
  have c0 := hst.cell
  have k3 := hst.cell3
  have cg := hst.goal
  dsimp only at c0 k3
  have HST : Hid _ := hst
  clear hst
  go_cut [] from 17 to 30 (fun wx => St base w wx A mb g (comeL L1 10 g [(p0, p1, p2), (true, p1, -p2)]) b (p0, p1, p2) (.slice none 0 0) [])
  case first =>
    go_region_held3 (fun W => W.cell? ⟨b, 0, none⟩ = some (.bool p0) ∧ W.cell? ⟨b, 1, none⟩ = some (.int .i64 p1) ∧ W.cell? ⟨b, 2, none⟩ = some (.int .i64 p2) ∧ W.cell? ⟨A, 0, none⟩ = some (.bool g.1) ∧ W.cell? ⟨A, 1, none⟩ = some (.int .i64 g.2.1) ∧ W.cell? ⟨A, 2, none⟩ = some (.int .i64 g.2.2)) (go_keep) (first | (go_at_call 30; refine (all_any _ _ _).mono ?_; rintro e w' ⟨rfl, rfl⟩) | (go_at_call 47; refine (some_any _ _ _).mono ?_; rintro e w' ⟨rfl, rfl⟩) | (go_at_call 46; refine (come_st 10 g _ [(p0, p1, p2), (true, p1, -p2)] HST.out (by first | exact bl1 _ _ | exact bl2 _ _ _ | exact bl3 _ _ _ _) hg (by first | exact isC_lit2 (nw1 _ _) | exact isC_lit2 (nw21 _ _ _) | exact isC_lit2 (nw22 _ _ _) | exact isC_lit2 (nw32 _ _ _ _) | exact isC_lit2 (nw33 _ _ _ _)) (by simp) (two_of (P := Sm) hp hS2) (by omega)).mono ?_; rintro e wz ⟨rfl, hz⟩; have HZ : Hid _ := hz; have cz := hz.cell; have cy := hz.goal; clear hz; dsimp only at cz))
    all_goals
      clear c0 cz cy k3 cg
      go_wp2_with fail
      go_meet
      case rel => exact HZ.out
  case rest =>
  clear c0 k3 cg HST
  have hleL2 := come_len L1 10 g [(p0, p1, p2), (true, p1, -p2)]
  obtain ⟨L2, hEL2⟩ : ∃ l, comeL L1 10 g [(p0, p1, p2), (true, p1, -p2)] = l := ⟨_, rfl⟩
  rw [hEL2] at hcut hleL2
  have HEL2 : Hid (comeL L1 10 g [(p0, p1, p2), (true, p1, -p2)] = L2) := hEL2
  clear hEL2
  have hst := hcut
  clear hcut
  have HST : Hid _ := hst
  clear hst
  go_wp2_with (go_at_call 29; refine (literals_any _).mono ?_; rintro e w3 ⟨v3, rfl, hN3, hb3⟩; have HN3 : Hid _ := hN3; have HB3 : Hid _ := hb3; clear hN3 hb3; obtain ⟨av, kv, hv3, _⟩ := HN3.out; have e12 : lits.length = 12 := rfl; rw [e12] at hv3; subst hv3; clear e12)
  go_loopw [33] (fun iv wr => ∃ (k : Nat), iv = .int .i64 (k : Int) ∧ k ≤ 12 ∧ St base w wr A mb g ((lits.take k).foldl (uA (p0, p1, p2)) L2) b (p0, p1, p2) (.slice av 12 kv) lits) (fun iv _ => 12 - (intOf iv).toNat)
  case atStart => exact ⟨0, rfl, Nat.zero_le _, ⟨HST.out.arg.below HB3.out, HST.out.kt.trans (Kt.of_below HB3.out HST.out.arg.le), (HB3.out.block b HST.out.lt).trans HST.out.bx, HN3.out⟩⟩
  case round =>
    obtain ⟨k, rfl, hk, hst⟩ := hrel
    have hN := hst.ns
    clear HST HN3 HB3
    by_cases hlt : k < 12
    · obtain ⟨a', c', hv', hcs⟩ := hN.cells
      have e12 : lits.length = 12 := rfl
      rw [e12] at hv'
      simp only [Value.slice.injEq, true_and] at hv'
      obtain ⟨rfl, rfl⟩ := hv'
      have q2 : decide ((k : Int) < 12) = true := by simp; omega
      obtain ⟨bl, ol, rfl, hbl, hcl⟩ := hcs.resolve_left (by decide)
      have d0 := hcl k hlt
      obtain ⟨x, hx⟩ : ∃ x, lits[k]'hlt = x := ⟨_, rfl⟩
      have hxs := lits_sm (hx ▸ List.getElem_mem hlt)
      rw [hx] at d0
      have HX : Hid (lits[k]'hlt = x) := hx
      have hLk := fold_len (uA_len (p0, p1, p2)) (lits.take k) L2
      have htk : (lits.take k).length ≤ 12 := by rw [List.length_take]; exact Nat.min_le_right _ _
      obtain ⟨Lk, hE⟩ : ∃ l, (lits.take k).foldl (uA (p0, p1, p2)) L2 = l := ⟨_, rfl⟩
      rw [hE] at hst hLk
      have HE : Hid ((lits.take k).foldl (uA (p0, p1, p2)) L2 = Lk) := hE
      have HN : Hid _ := hN
      have hLk2 : Lk.length < 95000 := by omega
      clear hE hcs hcl hx hN hLk htk e12
      have hS3 : Sm (false, p1, x) := ⟨⟨hp1.1, hp1.2⟩, hxs.1, hxs.2⟩
      have hS4 : Sm (false, x, p2) := ⟨⟨hxs.1, hxs.2⟩, hp2.1, hp2.2⟩
      have hS5 : Sm (false, p2, x) := ⟨⟨hp2.1, hp2.2⟩, hxs.1, hxs.2⟩
      have hS6 : Sm (false, x, p1) := ⟨⟨hxs.1, hxs.2⟩, hp1.1, hp1.2⟩
      have hS7 : Sm (true, x, p2) := ⟨⟨hxs.1, hxs.2⟩, hp2.1, hp2.2⟩
      have hS8 : Sm (true, x, p1) := ⟨⟨hxs.1, hxs.2⟩, hp1.1, hp1.2⟩
      have hKT : Kt base wr wr := Kt.refl _ _
      go_upto_region 6 with fail
      clear d0
      obtain ⟨W1, hW1⟩ : ∃ W, wr = W := ⟨_, rfl⟩
      have HW1 : Hid (wr = W1) := hW1
      clear hKT hW1
      have c0 := hst.cell
      have k3 := hst.cell3
      dsimp only at c0 k3
      have HST : Hid _ := hst
      clear hst
      go_cut [] from 37 to 44 (fun wx => St base w wx A mb g (comeL Lk 5 (false, p1, x) [(p0, p1, p2)]) b (p0, p1, p2) (.slice (some ⟨bl, ol, none⟩) 12 kv) lits)
      case first =>
        go_region_held3 (fun W => W.cell? ⟨b, 0, none⟩ = some (.bool p0) ∧ W.cell? ⟨b, 1, none⟩ = some (.int .i64 p1) ∧ W.cell? ⟨b, 2, none⟩ = some (.int .i64 p2)) (go_keep) (first | (go_at_call 30; refine (all_any _ _ _).mono ?_; rintro e w' ⟨rfl, rfl⟩) | (go_at_call 47; refine (some_any _ _ _).mono ?_; rintro e w' ⟨rfl, rfl⟩) | (go_at_call 46; refine (come_st 5 (false, p1, x) _ [(p0, p1, p2)] HST.out (by first | exact bl1 _ _ | exact bl2 _ _ _ | exact bl3 _ _ _ _) hS3 (by first | exact isC_lit1 (nw1 _ _) | exact isC_lit1 (nw21 _ _ _) | exact isC_lit1 (nw22 _ _ _) | exact isC_lit1 (nw32 _ _ _ _) | exact isC_lit1 (nw33 _ _ _ _)) (by simp) (one_of (P := Sm) hp) (by omega)).mono ?_; rintro e wz ⟨rfl, hz⟩; have HZ : Hid _ := hz; have cz := hz.cell; have cy := hz.goal; clear hz; dsimp only at cz))
        all_goals
          clear c0 cz cy k3
          go_wp2_with fail
          go_meet
          case rel => exact HZ.out
      case rest =>
      clear c0 k3 HST
      have hleM1 := come_len Lk 5 (false, p1, x) [(p0, p1, p2)]
      obtain ⟨M1, hEM1⟩ : ∃ l, comeL Lk 5 (false, p1, x) [(p0, p1, p2)] = l := ⟨_, rfl⟩
      rw [hEM1] at hcut hleM1
      have HEM1 : Hid (comeL Lk 5 (false, p1, x) [(p0, p1, p2)] = M1) := hEM1
      clear hEM1
      have hst := hcut
      clear hcut
      go_upto_region 7 with fail
      have c0 := hst.cell
      have k3 := hst.cell3
      dsimp only at c0 k3
      have HST : Hid _ := hst
      clear hst
      go_cut [] from 45 to 52 (fun wx => St base w wx A mb g (comeL M1 6 (false, x, p2) [(p0, p1, p2)]) b (p0, p1, p2) (.slice (some ⟨bl, ol, none⟩) 12 kv) lits)
      case first =>
        go_region_held3 (fun W => W.cell? ⟨b, 0, none⟩ = some (.bool p0) ∧ W.cell? ⟨b, 1, none⟩ = some (.int .i64 p1) ∧ W.cell? ⟨b, 2, none⟩ = some (.int .i64 p2)) (go_keep) (first | (go_at_call 30; refine (all_any _ _ _).mono ?_; rintro e w' ⟨rfl, rfl⟩) | (go_at_call 47; refine (some_any _ _ _).mono ?_; rintro e w' ⟨rfl, rfl⟩) | (go_at_call 46; refine (come_st 6 (false, x, p2) _ [(p0, p1, p2)] HST.out (by first | exact bl1 _ _ | exact bl2 _ _ _ | exact bl3 _ _ _ _) hS4 (by first | exact isC_lit1 (nw1 _ _) | exact isC_lit1 (nw21 _ _ _) | exact isC_lit1 (nw22 _ _ _) | exact isC_lit1 (nw32 _ _ _ _) | exact isC_lit1 (nw33 _ _ _ _)) (by simp) (one_of (P := Sm) hp) (by omega)).mono ?_; rintro e wz ⟨rfl, hz⟩; have HZ : Hid _ := hz; have cz := hz.cell; have cy := hz.goal; clear hz; dsimp only at cz))
        all_goals
          clear c0 cz cy k3
          go_wp2_with fail
          go_meet
          case rel => exact HZ.out
      case rest =>
      clear c0 k3 HST
      have hleM2 := come_len M1 6 (false, x, p2) [(p0, p1, p2)]
      obtain ⟨M2, hEM2⟩ : ∃ l, comeL M1 6 (false, x, p2) [(p0, p1, p2)] = l := ⟨_, rfl⟩
      rw [hEM2] at hcut hleM2
      have HEM2 : Hid (comeL M1 6 (false, x, p2) [(p0, p1, p2)] = M2) := hEM2
      clear hEM2
      have hst := hcut
      clear hcut
      go_upto_region 8 with fail
      have c0 := hst.cell
      have k3 := hst.cell3
      dsimp only at c0 k3
      have HST : Hid _ := hst
      clear hst
      go_cut [] from 53 to 64 (fun wx => St base w wx A mb g (comeL M2 3 (false, p1, x) [(p0, p1, p2), (false, p2, x)]) b (p0, p1, p2) (.slice (some ⟨bl, ol, none⟩) 12 kv) lits)
      case first =>
        go_region_held3 (fun W => W.cell? ⟨b, 0, none⟩ = some (.bool p0) ∧ W.cell? ⟨b, 1, none⟩ = some (.int .i64 p1) ∧ W.cell? ⟨b, 2, none⟩ = some (.int .i64 p2)) (go_keep) (first | (go_at_call 30; refine (all_any _ _ _).mono ?_; rintro e w' ⟨rfl, rfl⟩) | (go_at_call 47; refine (some_any _ _ _).mono ?_; rintro e w' ⟨rfl, rfl⟩) | (go_at_call 46; refine (come_st 3 (false, p1, x) _ [(p0, p1, p2), (false, p2, x)] HST.out (by first | exact bl1 _ _ | exact bl2 _ _ _ | exact bl3 _ _ _ _) hS3 (by first | exact isC_lit2 (nw1 _ _) | exact isC_lit2 (nw21 _ _ _) | exact isC_lit2 (nw22 _ _ _) | exact isC_lit2 (nw32 _ _ _ _) | exact isC_lit2 (nw33 _ _ _ _)) (by simp) (two_of (P := Sm) hp hS5) (by omega)).mono ?_; rintro e wz ⟨rfl, hz⟩; have HZ : Hid _ := hz; have cz := hz.cell; have cy := hz.goal; clear hz; dsimp only at cz))
        all_goals
          clear c0 cz cy k3
          go_wp2_with fail
          go_meet
          case rel => exact HZ.out
      case rest =>
      clear c0 k3 HST
      have hleM3 := come_len M2 3 (false, p1, x) [(p0, p1, p2), (false, p2, x)]
      obtain ⟨M3, hEM3⟩ : ∃ l, comeL M2 3 (false, p1, x) [(p0, p1, p2), (false, p2, x)] = l := ⟨_, rfl⟩
      rw [hEM3] at hcut hleM3
      have HEM3 : Hid (comeL M2 3 (false, p1, x) [(p0, p1, p2), (false, p2, x)] = M3) := hEM3
      clear hEM3
      have hst := hcut
      clear hcut
      go_upto_region 9 with fail
      have c0 := hst.cell
      have k3 := hst.cell3
      dsimp only at c0 k3
      have HST : Hid _ := hst
      clear hst
      go_cut [] from 65 to 76 (fun wx => St base w wx A mb g (comeL M3 3 (false, x, p2) [(false, x, p1), (p0, p1, p2)]) b (p0, p1, p2) (.slice (some ⟨bl, ol, none⟩) 12 kv) lits)
      case first =>
        go_region_held3 (fun W => W.cell? ⟨b, 0, none⟩ = some (.bool p0) ∧ W.cell? ⟨b, 1, none⟩ = some (.int .i64 p1) ∧ W.cell? ⟨b, 2, none⟩ = some (.int .i64 p2)) (go_keep) (first | (go_at_call 30; refine (all_any _ _ _).mono ?_; rintro e w' ⟨rfl, rfl⟩) | (go_at_call 47; refine (some_any _ _ _).mono ?_; rintro e w' ⟨rfl, rfl⟩) | (go_at_call 46; refine (come_st 3 (false, x, p2) _ [(false, x, p1), (p0, p1, p2)] HST.out (by first | exact bl1 _ _ | exact bl2 _ _ _ | exact bl3 _ _ _ _) hS4 (by first | exact isC_lit2 (nw1 _ _) | exact isC_lit2 (nw21 _ _ _) | exact isC_lit2 (nw22 _ _ _) | exact isC_lit2 (nw32 _ _ _ _) | exact isC_lit2 (nw33 _ _ _ _)) (by simp) (two_of (P := Sm) hS6 hp) (by omega)).mono ?_; rintro e wz ⟨rfl, hz⟩; have HZ : Hid _ := hz; have cz := hz.cell; have cy := hz.goal; clear hz; dsimp only at cz))
        all_goals
          clear c0 cz cy k3
          go_wp2_with fail
          go_meet
          case rel => exact HZ.out
      case rest =>
      clear c0 k3 HST
      have hleM4 := come_len M3 3 (false, x, p2) [(false, x, p1), (p0, p1, p2)]
      obtain ⟨M4, hEM4⟩ : ∃ l, comeL M3 3 (false, x, p2) [(false, x, p1), (p0, p1, p2)] = l := ⟨_, rfl⟩
      rw [hEM4] at hcut hleM4
      have HEM4 : Hid (comeL M3 3 (false, x, p2) [(false, x, p1), (p0, p1, p2)] = M4) := hEM4
      clear hEM4
      have hst := hcut
      clear hcut
      go_upto_region 10 with fail
      have c0 := hst.cell
      have k3 := hst.cell3
      dsimp only at c0 k3
      have HST : Hid _ := hst
      clear hst
      go_region_held3 (fun W => W.cell? ⟨b, 0, none⟩ = some (.bool p0) ∧ W.cell? ⟨b, 1, none⟩ = some (.int .i64 p1) ∧ W.cell? ⟨b, 2, none⟩ = some (.int .i64 p2)) (go_keep) (first | (go_at_call 30; refine (all_any _ _ _).mono ?_; rintro e w' ⟨rfl, rfl⟩) | (go_at_call 47; refine (some_any _ _ _).mono ?_; rintro e w' ⟨rfl, rfl⟩) | (go_at_call 46; refine (come_st 9 (true, x, p2) _ [(true, x, p1), (p0, p1, p2)] HST.out (by first | exact bl1 _ _ | exact bl2 _ _ _ | exact bl3 _ _ _ _) hS7 (by first | exact isC_lit2 (nw1 _ _) | exact isC_lit2 (nw21 _ _ _) | exact isC_lit2 (nw22 _ _ _) | exact isC_lit2 (nw32 _ _ _ _) | exact isC_lit2 (nw33 _ _ _ _)) (by simp) (two_of (P := Sm) hS8 hp) (by omega)).mono ?_; rintro e wz ⟨rfl, hz⟩; have HZ : Hid _ := hz; have cz := hz.cell; have cy := hz.goal; clear hz; dsimp only at cz))
      all_goals
        clear c0 cz cy k3
        go_wp2_with fail
        go_roundw
        case rel =>
          refine ⟨k + 1, by go_num, hlt, ?_⟩
          have e := HZ.out
          rw [← HEM4.out, ← HEM3.out, ← HEM2.out, ← HEM1.out, ← HE.out] at e
          rw [fold_snoc L2 hlt, HX.out]
          exact e
        case measure => simp [intOf]; omega
    · have ek : k = 12 := by omega
      subst ek
      have HST : Hid _ := hst
      clear hst hN
      go_wp2
      go_end0
      have e := HST.out
      rw [← HEL2.out, ← HEL1.out] at e
      exact ⟨rfl, e.arg, e.kt⟩
end Go.Proofs.Ytcnanbimpajonaa.Ua
