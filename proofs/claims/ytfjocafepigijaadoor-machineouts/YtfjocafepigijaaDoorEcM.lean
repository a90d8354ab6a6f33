/- Rows of arcs, one for each state: how they lie, an arc more. No conditions. -/
import Derived.Test.YtfjocafepigijaaDoorNx
import Derived.Test.YtfjocafepigijaaDoorNaM
import Derived.Test.YtfjocafepigijaaDoorTnM
namespace Go.Proofs.YtfjocafepigijaaDoor.Ra
open Go.RowKit Mv Qp Sk Po Ps Wd Se Mp St Cm Nm Nx

def upn (V : Nat → Value) (k0 : Nat) (v : Value) : Nat → Value := fun k => if k = k0 then v else V k
def adn (R : Nat → List Arc) (k0 : Nat) (a : Arc) : Nat → List Arc := fun k => if k = k0 then R k ++ [a] else R k
structure Rt (w wr : World) (sb S : Nat) (R : Nat → List Arc) (V : Nat → Value) (vs : List Value) : Prop where
  heads : wr.ownsRow w.heap.size 22 1 (.slice (some ⟨sb, 0, none⟩) S S) S vs
  len : vs.length = S
  head : ∀ f, f < S → vs[f]? = some (V f)
  rows : ∀ k, wr.ownsRow w.heap.size 64 5 (V k) (R k).length (acs (R k))
  apart : ∀ k k', k ≠ k' → ∀ b, (V k).ownBlock = some b → (V k').ownBlock ≠ some b
  below : Below w.heap.size w wr
theorem Rt.alloc {w wr : World} {sb S : Nat} {R : Nat → List Arc} {V : Nat → Value} {vs : List Value} (h : Rt w wr sb S R V vs) (o : Obj) : Rt w (wr.alloc o) sb S R V vs :=
  ⟨h.heads.alloc o, h.len, h.head, fun k => (h.rows k).alloc o, h.apart, h.below.alloc h.below.size o⟩
theorem Rt.drew {w wr : World} {sb S : Nat} {R : Nat → List Arc} {V : Nat → Value} {vs : List Value} (h : Rt w wr sb S R V vs) : Rt w wr.drew sb S R V vs :=
  ⟨h.heads, h.len, h.head, h.rows, h.apart, h.below.drew⟩
theorem Rt.begun {w W : World} {S : Nat} (hb : Below w.heap.size w W) (hS : S ≤ 40) : Rt w (W.alloc (.cells (mc S) 22)) W.heap.size S (fun _ => []) (fun _ => nilS) (List.replicate S nilS) := by
  refine ⟨⟨by simp, .inr ⟨W.heap.size, S, mc S, rfl, hb.size, heap_alloc_new _ _, Nat.le_refl _, by unfold maxLen; omega, ?_, ?_⟩⟩, by simp, fun f hf => by simp [hf], fun k => ⟨rfl, .inl ⟨rfl, rfl⟩⟩, fun k k' _ b hb => (by cases hb), hb.alloc hb.size _⟩
  · rw [← Array.length_toList, mc_list]
    simp
  · rw [mc_list]
    simp
theorem Rt.cell {w wr : World} {sb S f : Nat} {R : Nat → List Arc} {V : Nat → Value} {vs : List Value} (h : Rt w wr sb S R V vs) (hf : f < S) : wr.cell? ⟨sb, f, none⟩ = some (V f) := by
  rw [h.heads.cellAt f (by omega)]
  exact h.head f hf
theorem apart_upn {V : Nat → Value} {k0 : Nat} {v1 : Value} {sz : Nat} (hap : ∀ k k', k ≠ k' → ∀ b, (V k).ownBlock = some b → (V k').ownBlock ≠ some b) (hlt : ∀ k b, (V k).ownBlock = some b → b < sz) (hl : v1.ownBlock = (V k0).ownBlock ∨ ∃ g, v1.ownBlock = some g ∧ sz ≤ g) :
    ∀ k k', k ≠ k' → ∀ b, (upn V k0 v1 k).ownBlock = some b → (upn V k0 v1 k').ownBlock ≠ some b := by
  intro k k' hne b hb hb'
  unfold upn at hb hb'
  by_cases e1 : k = k0
  · have e2 : ¬ k' = k0 := fun e => hne (e1.trans e.symm)
    rw [if_pos e1] at hb
    rw [if_neg e2] at hb'
    rcases hl with hl | ⟨g, hl, hg⟩
    · rw [hl] at hb
      exact hap k0 k' (fun e => e2 e.symm) b hb hb'
    · rw [hl] at hb
      cases hb
      exact absurd (hlt k' _ hb') (Nat.not_lt.2 hg)
  · rw [if_neg e1] at hb
    by_cases e2 : k' = k0
    · rw [if_pos e2] at hb'
      rcases hl with hl | ⟨g, hl, hg⟩
      · rw [hl] at hb'
        exact hap k k0 e1 b hb hb'
      · rw [hl] at hb'
        cases hb'
        exact absurd (hlt k _ hb) (Nat.not_lt.2 hg)
    · rw [if_neg e2] at hb'
      exact hap k k' hne b hb hb'
/-- an arc more in the row of a state -/
theorem Rt.add {w wr w1 : World} {sb S f : Nat} {R : Nat → List Arc} {V : Nat → Value} {vs : List Value} {a : Arc} {v1 : Value} (h : Rt w wr sb S R V vs) (hf : f < S)
    (ho : w1.ownsRow w.heap.size 64 5 v1 ((R f).length + 1) (acs (R f) ++ ac a)) (hg : wr.grownBy w1 (V f).ownBlock) (hl : v1.ownBlock = (V f).ownBlock ∨ ∃ g, v1.ownBlock = some g ∧ wr.heap.size ≤ g) :
    (w1.cell? ⟨sb, f, none⟩ = some (V f) ∧ w1.frozen? ⟨sb, f, none⟩ = false) ∧ Rt w (w1.setCell ⟨sb, f, none⟩ v1) sb S (adn R f a) (upn V f v1) (vs.set f v1) := by
  have hty : ∀ b, (V f).ownBlock = some b → ∃ cur, wr.heap[b]? = some (.cells cur 64 (0, 0)) := fun b hb => own_ty (h.rows _) hb
  have hk1 : Kp (fun b => (V f).ownBlock = some b) wr w1 := (Kp.refl _ wr).grown hg (fun b hb _ => hb)
  obtain ⟨cs, hcs⟩ := own_ty h.heads (k := sb) rfl
  have nS : ¬ (V f).ownBlock = some sb := fun e => by obtain ⟨c, hc⟩ := hty sb e; exact ty_ne hc hcs (by decide)
  have heads1 := own_kp h.heads hk1 nS
  obtain ⟨cs1, hcs1⟩ := own_ty heads1 (k := sb) rfl
  have hlt : ∀ k b, (V k).ownBlock = some b → b < wr.heap.size := fun k b hb => ((h.rows k).lt b hb).2
  have hsl : w.heap.size ≤ sb := (h.heads.lt sb rfl).1
  have hk2 : Kp (fun b => b = sb) w1 (w1.setCell ⟨sb, f, none⟩ v1) := (Kp.refl _ w1).setCell _ _ _ (fun _ => rfl)
  have rows1 : ∀ k, k ≠ f → w1.ownsRow w.heap.size 64 5 (V k) (R k).length (acs (R k)) := fun k hne => own_kp2 (h.rows k) hk1 (fun b hb e => h.apart k _ hne b hb e)
  have nsb : ∀ {v : Value} {m : Nat} {xs : List Value}, w1.ownsRow w.heap.size 64 5 v m xs → ∀ b, v.ownBlock = some b → ¬ b = sb := fun {v m xs} hr b hb e => by
    obtain ⟨c, hc⟩ := own_ty hr hb
    subst e
    exact ty_ne hc hcs1 (by decide)
  refine ⟨⟨?_, heads1.frozenAt f⟩, (heads1.stored f v1).1, by rw [List.length_set]; exact h.len, fun g hg' => ?_, fun k => ?_, apart_upn h.apart hlt hl, ?_⟩
  · rw [heads1.cellAt f (by omega)]
    exact h.head f hf
  · rw [List.getElem?_set]
    unfold upn
    by_cases e : f = g
    · subst e
      simp [h.len, hf]
    · rw [if_neg e, if_neg (fun e2 => e e2.symm)]
      exact h.head g hg'
  · unfold upn adn
    by_cases e : k = f
    · rw [if_pos e, if_pos e]
      subst e
      rw [← acs_snoc, List.length_append]
      exact own_kp2 ho hk2 (nsb ho)
    · rw [if_neg e, if_neg e]
      exact own_kp2 (rows1 k e) hk2 (nsb (rows1 k e))
  · exact (h.below.grown hg h.below.size (fun b hb => ((h.rows _).lt b hb).1)).setCell hsl _
/-- the arcs that are put at a state -/
def rws (g : Arc → Arc) (L : List Arc) : Nat → List Arc := fun k => (L.map g).filter fun a => a.1 == (k : Int)
theorem rws_up (g : Arc → Arc) (L : List Arc) (a : Arc) (f : Nat) (hf : (g a).1 = (f : Int)) : rws g (L ++ [a]) = adn (rws g L) f (g a) := by
  funext k
  unfold rws adn
  rw [List.map_append, List.filter_append]
  by_cases e : k = f
  · subst e
    simp [hf]
  · have : ¬ (f : Int) = (k : Int) := by omega
    simp [hf, this, e]
theorem rws_len (g : Arc → Arc) (L : List Arc) (k : Nat) : (rws g L k).length ≤ L.length := by
  unfold rws
  exact Nat.le_trans (List.length_filter_le _ _) (by simp)
end Go.Proofs.YtfjocafepigijaaDoor.Ra
/- A list of arcs that has each name once, for its least cost: how it lies, one arc more. No conditions. -/
namespace Go.Proofs.YtfjocafepigijaaDoor.Am
open Go.RowKit Mv Qp Sk Po Ps Wd Se Mp St Cm Nm Nx

/-- where a name stands -/
def pos (A : List Arc) (n : Nam) : Option Nat := A.findIdx? (fun a => nam a == n)
def chp (x : Int) (a : Arc) : Arc := (a.1, a.2.1, a.2.2.1, a.2.2.2.1, if a.2.2.2.2 ≤ x then a.2.2.2.2 else x)
def low (A : List Arc) (i : Nat) (x : Int) : List Arc := A.modify i (chp x)
def putP (A : List Arc) (a : Arc) : List Arc := match pos A (nam a) with | none => A ++ [a] | some i => low A i a.2.2.2.2
structure Al (base : Nat) (w : World) (Lb mb : Nat) (A : List Arc) (va : Value) : Prop where
  row : w.heap[Lb]? = some (.cells #[va, .map (some mb)] 132 (0, 0))
  arcs : w.ownsRow base 64 5 va A.length (acs A)
  mp : IsAm w mb A.length (pos A)
theorem lt_at {w : World} {g : Nat} {o : Obj} (h : w.heap[g]? = some o) : g < w.heap.size := (Array.getElem?_eq_some_iff.1 h).1
/-- the blocks that a put may change -/
def Own (Lb mb : Nat) (va : Value) (b : Nat) : Prop := b = Lb ∨ b = mb ∨ va.ownBlock = some b
end Go.Proofs.YtfjocafepigijaaDoor.Am
/- leaving: the arcs of each state. Condition: the machine is right and small. -/
namespace Go.Proofs.YtfjocafepigijaaDoor.Ra
open Go.RowKit Mv Qp Sk Po Ps Wd Se Mp St Cm Nm Nx Tc

set_option maxHeartbeats 4000000 in
set_option maxRecDepth 100000 in
theorem leaving_any (S : Nat) (A : List Arc) (va vf : Value) (w : World) (hrow : Mv.Row w va 5 A.length (acs A)) (hA : ∀ a ∈ A, ∃ f : Nat, a.1 = (f : Int) ∧ f < S) (hS : S ≤ 40) (hAl : A.length ≤ 20000) :
    Calls Tryd.prog 39 #[.agg #[.int .i64 S, va, vf]] w fun e w' => ∃ sb V vs, e = .returned (.slice (some ⟨sb, 0, none⟩) S S) ∧ Rt w w' sb S (rws (fun a => a) A) V vs := by
  obtain ⟨hxl, aa, ca, rfl, _, hAx⟩ := hrow
  have hmk := run_mk S hS
  have HA : Hid (∀ a ∈ A, ∃ f : Nat, a.1 = (f : Int) ∧ f < S) := hA
  have HAx : Hid (A.length = 0 ∨ ∃ b off, aa = some ⟨b, off, none⟩ ∧ b < w.heap.size ∧ ∀ j u, (acs A)[j]? = some u → w.cell? ⟨b, off + j, none⟩ = some u) := hAx
  clear hA hAx hxl
  have hb0 : Below w.heap.size w (w.alloc (.cells #[.int .i64 S, .slice aa A.length ca, vf] 25)) := (Below.refl _ w).alloc (Nat.le_refl _) _
  have hrt := Rt.begun hb0 hS
  rw [show (w.alloc (.cells #[.int .i64 S, .slice aa A.length ca, vf] 25)).heap.size = w.heap.size + 1 by simp] at hrt
  have hrow1 := (heap_alloc_old (w.alloc (.cells #[.int .i64 S, .slice aa A.length ca, vf] 25)) (.cells (mc S) 22) (by simp)).trans (heap_alloc_new w (.cells #[.int .i64 S, .slice aa A.length ca, vf] 25))
  have hb1 := cell_of_row _ _ 1 _ _ _ hrow1
  obtain ⟨i0, hi, hz0, hz1, hz2⟩ := info_parts info36
  go_enter Tryd.func39, Tryd.ntmps39
  go_upto_region 3 with fail
  generalize hV : (w.alloc (.cells #[.int .i64 S, .slice aa A.length ca, vf] 25)).alloc (.cells (mc S) 22) = Vb at *
  clear hV
  generalize w.heap.size + 1 = sb at *
  go_wp2
  go_loopw [12] (fun a wr => ∃ (y : Nat) (V : Nat → Value) (vs : List Value), a = .int .i64 y ∧ y ≤ A.length ∧ Rt w wr sb S (rws (fun a => a) (A.take y)) V vs) (fun a _ => A.length - (intOf a).toNat)
  case atStart => exact ⟨0, _, _, rfl, Nat.zero_le _, hrt⟩
  case round =>
    clear hrt hb0 hb1 hrow1 hmk
    obtain ⟨y, Vx, vs, rfl, hy, hN⟩ := hrel
    by_cases hlt : y < A.length
    · obtain ⟨b, off, rfl, hbl, hcs⟩ : ∃ b off, aa = some ⟨b, off, none⟩ ∧ b < w.heap.size ∧ ∀ j u, (acs A)[j]? = some u → wr.cell? ⟨b, off + j, none⟩ = some u := by
        obtain ⟨b, off, e, hb, hc⟩ := HAx.out.resolve_left (by omega)
        exact ⟨b, off, e, hb, fun j u hu => (hN.below.cell hb).trans (hc j u hu)⟩
      have u := acs_at A y hlt
      obtain ⟨f, hfa, hf⟩ := HA.out _ (List.getElem_mem hlt)
      obtain ⟨fI, tI, iI, oI, xI, ea⟩ : ∃ f t i1 o1 x, A[y] = (f, t, i1, o1, x) := ⟨_, _, _, _, _, rfl⟩
      rw [ea] at u hfa
      dsimp only at hfa
      subst hfa
      have htk : A.take (y + 1) = A.take y ++ [((f : Int), tI, iI, oI, xI)] := by rw [← ea]; exact (List.take_append_getElem hlt).symm
      have p0 := hcs _ _ u.1
      have p1 := hcs _ _ u.2.1
      have p2 := hcs _ _ u.2.2.1
      have p3 := hcs _ _ u.2.2.2.1
      have p4 := hcs _ _ u.2.2.2.2
      rw [← Nat.add_assoc] at p1 p2 p3 p4
      have HTK : Hid (rws (fun a => a) (A.take (y + 1)) = adn (rws (fun a => a) (A.take y)) f ((f : Int), tI, iI, oI, xI)) := by show _ = _; rw [htk]; exact rws_up _ _ _ _ rfl
      have HRL : Hid ((rws (fun a => a) (A.take y) f).length ≤ 20000) := Nat.le_trans (rws_len _ _ _) (by rw [List.length_take]; omega)
      have HR : Hid (Rt w (wr.alloc (.cells #[.int .i64 (f : Int), .int .i64 tI, .int .i64 iI, .int .i64 oI, .int .i64 xI] 64)) sb S (rws (fun a => a) (A.take y)) Vx vs) := hN.alloc _
      have hx := heap_alloc_new wr (.cells #[.int .i64 (f : Int), .int .i64 tI, .int .i64 iI, .int .i64 oI, .int .i64 xI] 64)
      obtain ⟨v0, hv0⟩ : ∃ v, Vx f = v := ⟨_, rfl⟩
      have HV0 : Hid (Vx f = v0) := hv0
      have hvB : ¬ v0.ownBlock = some wr.heap.size := fun e => by rw [← hv0] at e; have := ((hN.rows _).lt _ e).2; omega
      have hsB : ¬ wr.heap.size = sb := fun e => by have := (hN.heads.lt sb rfl).2; omega
      clear u hcs ea htk hN hv0
      go_upto_region 5 with fail
      clear p0 p1 p2 p3 p4
      generalize hV : wr.alloc (.cells #[.int .i64 (f : Int), .int .i64 tI, .int .i64 iI, .int .i64 oI, .int .i64 xI] 64) = V at *
      clear hV
      generalize wr.heap.size = bx at *
      have HCE : Hid _ := fun (W : World) (hSw : W.heap[bx]? = some (.cells #[.int .i64 (f : Int), .int .i64 tI, .int .i64 iI, .int .i64 oI, .int .i64 xI] 64 (0, 0))) => (And.intro (cell_of_row _ _ 0 _ _ _ hSw) (And.intro (cell_of_row _ _ 1 _ _ _ hSw) (And.intro (cell_of_row _ _ 2 _ _ _ hSw) (And.intro (cell_of_row _ _ 3 _ _ _ hSw) (cell_of_row _ _ 4 _ _ _ hSw)))))
      refine wp_region_held_drew (S := fun W => W.heap[bx]? = some (.cells #[.int .i64 (f : Int), .int .i64 tI, .int .i64 iI, .int .i64 oI, .int .i64 xI] 64 (0, 0))) (by kernel_rfl) (by exact hx) (fun hHeld => ?_)
      have HR0 : Hid (Rt w V.drew sb S (rws (fun a => a) (A.take y)) Vx vs) := HR.out.drew
      have hx0 := hHeld
      clear HR hx
      generalize hV : V.drew = V0 at *
      clear hV
      refine wpAnyH_take (i := 0) (oi := { dst := some 16, op := Op.move (Operand.tmp 3), type := 73, pos := "machine.go:75", after := #[], guard := none }) (v := ?_) rfl (by kernel_rfl) (by kernel_rfl) (by kernel_rfl) (fun _ _ _ h => h) (Or.inl ⟨by rfl, ?_⟩) (by assumption) ?_
      case refine_2 => intro w hSw; (try dsimp only at hSw); obtain ⟨z0, z1, z2, z3, z4⟩ := HCE.out _ hSw; go_simp; (try with_reducible rfl)
      simp only [Act.put, List.setIfInBounds_toArray, List.set_cons_zero, List.set_cons_succ]
      refine wpAnyH_take (i := 1) (oi := { dst := some 17, op := Op.fieldAddr 64 (Operand.tmp 5) 0, type := 0, pos := "machine.go:75", after := #[], guard := none }) (v := ?_) rfl (by kernel_rfl) (by kernel_rfl) (by kernel_rfl) (fun _ _ _ h => h) (Or.inl ⟨by rfl, ?_⟩) (by assumption) ?_
      case refine_2 => intro w hSw; (try dsimp only at hSw); obtain ⟨z0, z1, z2, z3, z4⟩ := HCE.out _ hSw; go_simp; (try with_reducible rfl)
      simp only [Act.put, List.setIfInBounds_toArray, List.set_cons_zero, List.set_cons_succ]
      refine wpAnyH_take (i := 2) (oi := { dst := some 18, op := Op.load 3 (Operand.tmp 17), type := 3, pos := "machine.go:75", after := #[{ on := 1, ground := Ground.data }], guard := none }) (v := ?_) rfl (by kernel_rfl) (by kernel_rfl) (by kernel_rfl) (fun _ _ _ h => h) (Or.inl ⟨by rfl, ?_⟩) (by assumption) ?_
      case refine_2 => intro w hSw; (try dsimp only at hSw); obtain ⟨z0, z1, z2, z3, z4⟩ := HCE.out _ hSw; go_simp; (try with_reducible rfl)
      simp only [Act.put, List.setIfInBounds_toArray, List.set_cons_zero, List.set_cons_succ]
      refine wpAnyH_take (i := 3) (oi := { dst := some 19, op := Op.move (Operand.tmp 3), type := 73, pos := "machine.go:75", after := #[], guard := none }) (v := ?_) rfl (by kernel_rfl) (by kernel_rfl) (by kernel_rfl) (fun _ _ _ h => h) (Or.inl ⟨by rfl, ?_⟩) (by assumption) ?_
      case refine_2 => intro w hSw; (try dsimp only at hSw); obtain ⟨z0, z1, z2, z3, z4⟩ := HCE.out _ hSw; go_simp; (try with_reducible rfl)
      simp only [Act.put, List.setIfInBounds_toArray, List.set_cons_zero, List.set_cons_succ]
      refine wpAnyH_take (i := 4) (oi := { dst := some 20, op := Op.fieldAddr 64 (Operand.tmp 5) 0, type := 0, pos := "machine.go:75", after := #[], guard := none }) (v := ?_) rfl (by kernel_rfl) (by kernel_rfl) (by kernel_rfl) (fun _ _ _ h => h) (Or.inl ⟨by rfl, ?_⟩) (by assumption) ?_
      case refine_2 => intro w hSw; (try dsimp only at hSw); obtain ⟨z0, z1, z2, z3, z4⟩ := HCE.out _ hSw; go_simp; (try with_reducible rfl)
      simp only [Act.put, List.setIfInBounds_toArray, List.set_cons_zero, List.set_cons_succ]
      refine wpAnyH_take (i := 5) (oi := { dst := some 21, op := Op.load 3 (Operand.tmp 20), type := 3, pos := "machine.go:75", after := #[{ on := 4, ground := Ground.data }], guard := none }) (v := ?_) rfl (by kernel_rfl) (by kernel_rfl) (by kernel_rfl) (fun _ _ _ h => h) (Or.inl ⟨by rfl, ?_⟩) (by assumption) ?_
      case refine_2 => intro w hSw; (try dsimp only at hSw); obtain ⟨z0, z1, z2, z3, z4⟩ := HCE.out _ hSw; go_simp; (try with_reducible rfl)
      simp only [Act.put, List.setIfInBounds_toArray, List.set_cons_zero, List.set_cons_succ]
      refine wpAnyH_take (i := 6) (oi := { dst := some 22, op := Op.indexAddr 73 (Operand.tmp 19) (Operand.tmp 21), type := 0, pos := "machine.go:75", after := #[{ on := 3, ground := Ground.data }, { on := 5, ground := Ground.data }], guard := none }) (v := ?_) rfl (by kernel_rfl) (by kernel_rfl) (by kernel_rfl) (fun _ _ _ h => h) (Or.inl ⟨by rfl, ?_⟩) (by assumption) ?_
      case refine_2 => intro w hSw; (try dsimp only at hSw); obtain ⟨z0, z1, z2, z3, z4⟩ := HCE.out _ hSw; go_simp; (try with_reducible rfl)
      simp only [Act.put, List.setIfInBounds_toArray, List.set_cons_zero, List.set_cons_succ]
      refine wpAnyH_take (i := 8) (oi := { dst := some 24, op := Op.load 64 (Operand.tmp 5), type := 64, pos := "machine.go:75", after := #[], guard := none }) (v := ?_) rfl (by kernel_rfl) (by kernel_rfl) (by kernel_rfl) (fun _ _ _ h => h) (Or.inl ⟨by rfl, ?_⟩) (by assumption) ?_
      case refine_2 => intro w hSw; (try dsimp only at hSw); obtain ⟨z0, z1, z2, z3, z4⟩ := HCE.out _ hSw; go_simp; (try with_reducible rfl)
      simp only [Act.put, List.setIfInBounds_toArray, List.set_cons_zero, List.set_cons_succ]
      refine wpAnyH_ready (rs := [7, 9]) (by kernel_rfl) (by simp) ?_
      refine (AllReadyH.cons (o := { dst := some 23, op := Op.load 22 (Operand.tmp 22), type := 22, pos := "machine.go:75", after := #[{ on := 6, ground := Ground.data }], guard := none }) rfl (fun K hK => ?_) (AllReadyH.cons (o := { dst := some 25, op := Op.buildSlice 22 1 #[(0, Operand.tmp 24)], type := 22, pos := "machine.go:75", after := #[{ on := 8, ground := Ground.data }], guard := none }) rfl (fun K hK => ?_) AllReadyH.nil))
      · skip
        have c7 := HR0.out.cell hf
        rw [HV0.out] at c7
        go_simp
        refine hK.out _ _ ?_ (fun hHeld => ?_)
        · first | exact hx1 | exact hx0
        clear hK K
        try simp only [Act.put, List.setIfInBounds_toArray, List.set_cons_zero, List.set_cons_succ]
        clear c7
        refine wpAnyH_ready (rs := [9]) (by kernel_rfl) (by simp) ?_
        refine (AllReadyH.cons (o := { dst := some 25, op := Op.buildSlice 22 1 #[(0, Operand.tmp 24)], type := 22, pos := "machine.go:75", after := #[{ on := 8, ground := Ground.data }], guard := none }) rfl (fun K hK => ?_) AllReadyH.nil)
        go_simp
        have HR1 : Hid _ := HR0.out.alloc (.cells #[.int .i64 (f : Int), .int .i64 tI, .int .i64 iI, .int .i64 oI, .int .i64 xI] 64)
        have hx1 := (heap_alloc_old V0 (.cells #[.int .i64 (f : Int), .int .i64 tI, .int .i64 iI, .int .i64 oI, .int .i64 xI] 64) (lt_get hx0)).trans hx0
        have hn1 := cell_five_at V0 V0.heap.size (.int .i64 (f : Int)) (.int .i64 tI) (.int .i64 iI) (.int .i64 oI) (.int .i64 xI) 64 rfl
        refine hK.out _ _ ?_ (fun hHeld => ?_)
        · exact hx1
        clear hK K
        try simp only [Act.put, List.setIfInBounds_toArray, List.set_cons_zero, List.set_cons_succ]
        generalize hV : V0.alloc (.cells #[.int .i64 (f : Int), .int .i64 tI, .int .i64 iI, .int .i64 oI, .int .i64 xI] 64) = V1 at *
        clear hV
        generalize V0.heap.size = bs at *
        refine wpAnyH_ready (rs := [10]) (by kernel_rfl) (by simp) ?_
        refine (AllReadyH.cons (o := { dst := some 26, op := Op.call { callee := Callee.builtin Builtin.append, args := #[Operand.tmp 23, Operand.tmp 25], argTypes := #[22, 22] }, type := 22, pos := "machine.go:75", after := #[{ on := 7, ground := Ground.data }, { on := 9, ground := Ground.data }], guard := none }) rfl (fun K hK => ?_) AllReadyH.nil)
        refine step_append_at rfl (.tmp 23) (.tmp 25) 22 rfl w.heap.size 64 i0 (.agg #[.int .i64 0, .int .i64 0, .int .i64 0, .int .i64 0, .int .i64 0]) 5 40 Tryd.underlying22 hi hz0 hz1 hz2 rfl (by decide) v0 _ _ rfl (by rw [← HV0.out]; exact HR1.out.rows f) ⟨bs, 0, none⟩ 1 1 [.int .i64 (f : Int), .int .i64 tI, .int .i64 iI, .int .i64 oI, .int .i64 xI] rfl rfl hn1 (five_one _ _ _ _ _) (by have := HRL.out; unfold maxLen; omega) (by have := HRL.out; omega) HR1.out.below.size ?_
        intro v1 w1 ho1 hg1 hl1
        obtain ⟨gg, cc, rfl, _, _⟩ := own_some ho1 (Nat.succ_pos _)
        have hN2 := HR1.out.add (a := ((f : Int), tI, iI, oI, xI)) hf ho1 (by rw [HV0.out]; exact hg1) (by rw [HV0.out]; exact hl1.imp id (fun h => ⟨_, h, Nat.le_refl _⟩))
        have z1 := hN2.1.1
        have z2 := hN2.1.2
        have HN2 : Hid _ := hN2.2
        rw [HV0.out] at z1
        have hx2 := (hg1.block bx (lt_get hx1) (fun e => hvB e.symm)).trans hx1
        clear hN2 ho1 hg1 hl1
        refine hK.out _ _ ?_ (fun hHeld => ?_)
        · exact hx2
        clear hK K
        try simp only [Act.put, List.setIfInBounds_toArray, List.set_cons_zero, List.set_cons_succ]
        refine wpAnyH_take (i := 11) (oi := { dst := some 27, op := Op.indexAddr 73 (Operand.tmp 16) (Operand.tmp 18), type := 0, pos := "machine.go:75", after := #[{ on := 0, ground := Ground.data }, { on := 2, ground := Ground.data }, { on := 0, ground := Ground.phase }, { on := 1, ground := Ground.phase }, { on := 2, ground := Ground.phase }, { on := 3, ground := Ground.phase }, { on := 4, ground := Ground.phase }, { on := 5, ground := Ground.phase }, { on := 6, ground := Ground.phase }, { on := 7, ground := Ground.phase }, { on := 8, ground := Ground.phase }, { on := 9, ground := Ground.phase }, { on := 10, ground := Ground.phase }], guard := none }) (v := ?_) rfl (by kernel_rfl) (by kernel_rfl) (by kernel_rfl) (fun _ _ _ h => h) (Or.inl ⟨by rfl, ?_⟩) (by assumption) ?_
        case refine_2 => intro w hSw; (try dsimp only at hSw); obtain ⟨z0, z1, z2, z3, z4⟩ := HCE.out _ hSw; go_simp; (try with_reducible rfl)
        simp only [Act.put, List.setIfInBounds_toArray, List.set_cons_zero, List.set_cons_succ]
        refine wpAnyH_ready (rs := [12]) (by kernel_rfl) (by simp) ?_
        refine (AllReadyH.cons (o := { dst := none, op := Op.store 22 (Operand.tmp 27) (Operand.tmp 26), type := 0, pos := "machine.go:75", after := #[{ on := 11, ground := Ground.data }, { on := 10, ground := Ground.data }, { on := 10, ground := Ground.chain }, { on := 0, ground := Ground.phase }, { on := 1, ground := Ground.phase }, { on := 2, ground := Ground.phase }, { on := 3, ground := Ground.phase }, { on := 4, ground := Ground.phase }, { on := 5, ground := Ground.phase }, { on := 6, ground := Ground.phase }, { on := 7, ground := Ground.phase }, { on := 8, ground := Ground.phase }, { on := 9, ground := Ground.phase }, { on := 10, ground := Ground.phase }], guard := none }) rfl (fun K hK => ?_) AllReadyH.nil)
        go_simp
        refine hK.out _ _ ?_ (fun hHeld => ?_)
        · exact (heap_setCell_other _ _ _ _ hsB).trans hx2
        clear hK K
        try simp only [Act.put, List.setIfInBounds_toArray, List.set_cons_zero, List.set_cons_succ]
        refine wpAnyH_done (by kernel_rfl) ?_ _
        go_wp2
        exact ⟨⟨y + 1, _, _, by go_num, hlt, by rw [HTK.out]; exact HN2.out⟩, by simp [intOf]; omega⟩
      · skip
        go_simp
        have HR1 : Hid _ := HR0.out.alloc (.cells #[.int .i64 (f : Int), .int .i64 tI, .int .i64 iI, .int .i64 oI, .int .i64 xI] 64)
        have hx1 := (heap_alloc_old V0 (.cells #[.int .i64 (f : Int), .int .i64 tI, .int .i64 iI, .int .i64 oI, .int .i64 xI] 64) (lt_get hx0)).trans hx0
        have hn1 := cell_five_at V0 V0.heap.size (.int .i64 (f : Int)) (.int .i64 tI) (.int .i64 iI) (.int .i64 oI) (.int .i64 xI) 64 rfl
        refine hK.out _ _ ?_ (fun hHeld => ?_)
        · exact hx1
        clear hK K
        try simp only [Act.put, List.setIfInBounds_toArray, List.set_cons_zero, List.set_cons_succ]
        generalize hV : V0.alloc (.cells #[.int .i64 (f : Int), .int .i64 tI, .int .i64 iI, .int .i64 oI, .int .i64 xI] 64) = V1 at *
        clear hV
        generalize V0.heap.size = bs at *
        refine wpAnyH_ready (rs := [7]) (by kernel_rfl) (by simp) ?_
        refine (AllReadyH.cons (o := { dst := some 23, op := Op.load 22 (Operand.tmp 22), type := 22, pos := "machine.go:75", after := #[{ on := 6, ground := Ground.data }], guard := none }) rfl (fun K hK => ?_) AllReadyH.nil)
        have c7 := HR1.out.cell hf
        rw [HV0.out] at c7
        go_simp
        refine hK.out _ _ ?_ (fun hHeld => ?_)
        · first | exact hx1 | exact hx0
        clear hK K
        try simp only [Act.put, List.setIfInBounds_toArray, List.set_cons_zero, List.set_cons_succ]
        clear c7
        refine wpAnyH_ready (rs := [10]) (by kernel_rfl) (by simp) ?_
        refine (AllReadyH.cons (o := { dst := some 26, op := Op.call { callee := Callee.builtin Builtin.append, args := #[Operand.tmp 23, Operand.tmp 25], argTypes := #[22, 22] }, type := 22, pos := "machine.go:75", after := #[{ on := 7, ground := Ground.data }, { on := 9, ground := Ground.data }], guard := none }) rfl (fun K hK => ?_) AllReadyH.nil)
        refine step_append_at rfl (.tmp 23) (.tmp 25) 22 rfl w.heap.size 64 i0 (.agg #[.int .i64 0, .int .i64 0, .int .i64 0, .int .i64 0, .int .i64 0]) 5 40 Tryd.underlying22 hi hz0 hz1 hz2 rfl (by decide) v0 _ _ rfl (by rw [← HV0.out]; exact HR1.out.rows f) ⟨bs, 0, none⟩ 1 1 [.int .i64 (f : Int), .int .i64 tI, .int .i64 iI, .int .i64 oI, .int .i64 xI] rfl rfl hn1 (five_one _ _ _ _ _) (by have := HRL.out; unfold maxLen; omega) (by have := HRL.out; omega) HR1.out.below.size ?_
        intro v1 w1 ho1 hg1 hl1
        obtain ⟨gg, cc, rfl, _, _⟩ := own_some ho1 (Nat.succ_pos _)
        have hN2 := HR1.out.add (a := ((f : Int), tI, iI, oI, xI)) hf ho1 (by rw [HV0.out]; exact hg1) (by rw [HV0.out]; exact hl1.imp id (fun h => ⟨_, h, Nat.le_refl _⟩))
        have z1 := hN2.1.1
        have z2 := hN2.1.2
        have HN2 : Hid _ := hN2.2
        rw [HV0.out] at z1
        have hx2 := (hg1.block bx (lt_get hx1) (fun e => hvB e.symm)).trans hx1
        clear hN2 ho1 hg1 hl1
        refine hK.out _ _ ?_ (fun hHeld => ?_)
        · exact hx2
        clear hK K
        try simp only [Act.put, List.setIfInBounds_toArray, List.set_cons_zero, List.set_cons_succ]
        refine wpAnyH_take (i := 11) (oi := { dst := some 27, op := Op.indexAddr 73 (Operand.tmp 16) (Operand.tmp 18), type := 0, pos := "machine.go:75", after := #[{ on := 0, ground := Ground.data }, { on := 2, ground := Ground.data }, { on := 0, ground := Ground.phase }, { on := 1, ground := Ground.phase }, { on := 2, ground := Ground.phase }, { on := 3, ground := Ground.phase }, { on := 4, ground := Ground.phase }, { on := 5, ground := Ground.phase }, { on := 6, ground := Ground.phase }, { on := 7, ground := Ground.phase }, { on := 8, ground := Ground.phase }, { on := 9, ground := Ground.phase }, { on := 10, ground := Ground.phase }], guard := none }) (v := ?_) rfl (by kernel_rfl) (by kernel_rfl) (by kernel_rfl) (fun _ _ _ h => h) (Or.inl ⟨by rfl, ?_⟩) (by assumption) ?_
        case refine_2 => intro w hSw; (try dsimp only at hSw); obtain ⟨z0, z1, z2, z3, z4⟩ := HCE.out _ hSw; go_simp; (try with_reducible rfl)
        simp only [Act.put, List.setIfInBounds_toArray, List.set_cons_zero, List.set_cons_succ]
        refine wpAnyH_ready (rs := [12]) (by kernel_rfl) (by simp) ?_
        refine (AllReadyH.cons (o := { dst := none, op := Op.store 22 (Operand.tmp 27) (Operand.tmp 26), type := 0, pos := "machine.go:75", after := #[{ on := 11, ground := Ground.data }, { on := 10, ground := Ground.data }, { on := 10, ground := Ground.chain }, { on := 0, ground := Ground.phase }, { on := 1, ground := Ground.phase }, { on := 2, ground := Ground.phase }, { on := 3, ground := Ground.phase }, { on := 4, ground := Ground.phase }, { on := 5, ground := Ground.phase }, { on := 6, ground := Ground.phase }, { on := 7, ground := Ground.phase }, { on := 8, ground := Ground.phase }, { on := 9, ground := Ground.phase }, { on := 10, ground := Ground.phase }], guard := none }) rfl (fun K hK => ?_) AllReadyH.nil)
        go_simp
        refine hK.out _ _ ?_ (fun hHeld => ?_)
        · exact (heap_setCell_other _ _ _ _ hsB).trans hx2
        clear hK K
        try simp only [Act.put, List.setIfInBounds_toArray, List.set_cons_zero, List.set_cons_succ]
        refine wpAnyH_done (by kernel_rfl) ?_ _
        go_wp2
        exact ⟨⟨y + 1, _, _, by go_num, hlt, by rw [HTK.out]; exact HN2.out⟩, by simp [intOf]; omega⟩
    · obtain rfl : y = A.length := by omega
      have HN : Hid (Rt w wr sb S (rws (fun a => a) A) Vx vs) := by have := hN; rw [List.take_length] at this; exact this
      clear hN
      go_wp2
      go_ret
      exact ⟨_, _, _, rfl, HN.out⟩
end Go.Proofs.YtfjocafepigijaaDoor.Ra
/- put: an arc more. Conditions: its numbers have 64 bits; the arcs are not too many. -/
namespace Go.Proofs.YtfjocafepigijaaDoor.Am
open Go.RowKit Mv Qp Sk Po Ps Wd Se Mp St Cm Nm Nx

theorem own_slice {w : World} {base e size n : Nat} {v : Value} {xs : List Value} (h : w.ownsRow base e size v n xs) : ∃ ad cap, v = .slice ad n cap := by
  rcases h.2 with ⟨h1, h2⟩ | ⟨g, cap, _, h1, _⟩
  · subst h2
    exact ⟨_, _, h1⟩
  · exact ⟨_, _, h1⟩
end Go.Proofs.YtfjocafepigijaaDoor.Am
/- endCosts: what it costs to end in each state. Conditions: few states; the ends are right. -/
namespace Go.Proofs.YtfjocafepigijaaDoor.Ec
open Go.RowKit Mv Wk Po Wd Se St Wg Nw
open CR (nc)

/-- the costs to end; the last word for a state stands -/
def endP (S : Nat) (F : List (Int × Int)) : List Nat := F.foldl (fun R f => R.set f.1.toNat f.2.toNat) (List.replicate S far)
structure Er (w wr : World) (C S : Nat) (R : List Nat) : Prop where
  row : wr.ownsRow (w.heap.size + 1) 3 1 (.slice (some ⟨C, 0, none⟩) S S) S (nc R)
  len : R.length = S
  bel : Below w.heap.size w wr
end Go.Proofs.YtfjocafepigijaaDoor.Ec
