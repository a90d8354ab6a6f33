/- Clash's lists while they grow: how they lie in memory. No conditions. -/
import Derived.Test.YtkcbgapakpheiaaTcM
import Derived.Test.YtkcbgapakpheiaaRsM
namespace Go.Proofs.Ytkcbgapakpheiaa.Cl
open Go.RowKit Go.Shelf Sd Md Sc Aq Ls Lx Ly Lz Fo Mk Rf Tk Tk1 Rd Rf2 Fo2 Al2 Tk2 Tb Tc

def rdE (x : El) : List Value := [.int .i64 x.1.1, .int .i64 x.1.2.1]
def COwn (b7 b8 : Nat) (u7 u8 : Value) : Nat → Prop := fun q => q = b7 ∨ q = b8 ∨ u7.ownBlock = some q ∨ u8.ownBlock = some q
structure CI (w : World) (nV b7 b8 : Nat) (u7 u8 : Value) (pre : List El) (A : World) : Prop where
  x7 : Boxed A b7 43 u7
  x8 : Boxed A b8 64 u8
  r7 : A.ownsRow (nV + 2) 40 2 u7 pre.length (pre.flatMap rdE)
  r8 : A.ownsRow (nV + 2) 27 1 u8 pre.length (pre.map Prod.snd)
  each : ∀ x, x ∈ pre → IsI A x.2 x.1.2.2 ∧ (x.1.2.2 ≠ [] → Away (COwn b7 b8 u7 u8) x.2)
  e2 : A.heap[w.heap.size + 1]? = some (.cells #[.int .i64 0, .int .i64 0] 40 (0, 0))
  e3 : A.heap[w.heap.size + 2]? = some (.cells #[.int .i64 0, .int .i64 0] 40 (0, 0))
  bel : Below w.heap.size w A
def CInv (w : World) (nV b7 b8 : Nat) (pre : List El) (O : Nat → Prop) (A : World) : Prop := ∃ u7 u8, O = COwn b7 b8 u7 u8 ∧ CI w nV b7 b8 u7 u8 pre A
theorem CI.past {w : World} {nV b7 b8 : Nat} {u7 u8 : Value} {pre : List El} {A B : World} (h : CI w nV b7 b8 u7 u8 pre A) (hr : IsRec (nV + 1) A) (hp : Past (nV + 1) A B) (h1 : b7 < nV) (h2 : b8 < nV) (h3 : w.heap.size + 2 < nV) : CI w nV b7 b8 u7 u8 pre B :=
  ⟨(hp.block _ h.x7.lt (by omega)).trans h.x7, (hp.block _ h.x8.lt (by omega)).trans h.x8, own_past hp h.r7 (by omega), own_past hp h.r8 (by omega), fun x hx => ⟨row_past hr hp (h.each x hx).1, (h.each x hx).2⟩, (hp.block _ (Array.getElem?_eq_some_iff.1 h.e2).1 (by omega)).trans h.e2, (hp.block _ (Array.getElem?_eq_some_iff.1 h.e3).1 (by omega)).trans h.e3, below_past hp h.bel h.bel.size (by omega)⟩
theorem CInv.past {w : World} {nV b7 b8 : Nat} {pre : List El} {O : Nat → Prop} {A B : World} (h : CInv w nV b7 b8 pre O A) (hr : IsRec (nV + 1) A) (hp : Past (nV + 1) A B) (h1 : b7 < nV) (h2 : b8 < nV) (h3 : w.heap.size + 2 < nV) : CInv w nV b7 b8 pre O B := by
  obtain ⟨u7, u8, hO, h⟩ := h
  exact ⟨u7, u8, hO, (hp.block _ h.x7.lt (by omega)).trans h.x7, (hp.block _ h.x8.lt (by omega)).trans h.x8, own_past hp h.r7 (by omega), own_past hp h.r8 (by omega), fun x hx => ⟨row_past hr hp (h.each x hx).1, (h.each x hx).2⟩, (hp.block _ (Array.getElem?_eq_some_iff.1 h.e2).1 (by omega)).trans h.e2, (hp.block _ (Array.getElem?_eq_some_iff.1 h.e3).1 (by omega)).trans h.e3, below_past hp h.bel h.bel.size (by omega)⟩

/-- what stands inside a round -/
structure CG (A : World) (nV : Nat) (u7 u8 vr : Value) (nr : Nat) (xr : List Value) (vm : Value) (nm : Nat) (xm : List Value) (w : World) : Prop where
  os : w.os = A.os
  tape : w.tape = A.tape
  output : w.output = A.output
  size : A.heap.size ≤ w.heap.size
  keep : ∀ q, q < A.heap.size → u7.ownBlock ≠ some q → u8.ownBlock ≠ some q → w.heap[q]? = A.heap[q]?
  row7 : w.ownsRow (nV + 2) 40 2 vr nr xr
  row8 : w.ownsRow (nV + 2) 27 1 vm nm xm
  own7 : ∀ q, vr.ownBlock = some q → u7.ownBlock = some q ∨ A.heap.size ≤ q
  own8 : ∀ q, vm.ownBlock = some q → u8.ownBlock = some q ∨ A.heap.size ≤ q
theorem CG.start {w : World} {nV b7 b8 : Nat} {u7 u8 : Value} {pre : List El} {A : World} (h : CI w nV b7 b8 u7 u8 pre A) : CG A nV u7 u8 u7 pre.length (pre.flatMap rdE) u8 pre.length (pre.map Prod.snd) A.drew :=
  ⟨rfl, rfl, rfl, Nat.le_refl _, fun _ _ _ _ => rfl, own_below h.r7 (Below.refl _ _).drew, own_below h.r8 (Below.refl _ _).drew, fun _ h => .inl h, fun _ h => .inl h⟩
theorem CG.alloc {A : World} {nV : Nat} {u7 u8 vr : Value} {nr : Nat} {xr : List Value} {vm : Value} {nm : Nat} {xm : List Value} {w : World} (h : CG A nV u7 u8 vr nr xr vm nm xm w) (o : Obj) : CG A nV u7 u8 vr nr xr vm nm xm (w.alloc o) := by
  have hb := al w o
  exact ⟨hb.os.trans h.os, hb.tape.trans h.tape, hb.output.trans h.output, Nat.le_trans h.size hb.size, fun q hq h1 h2 => (hb.block q (Nat.lt_of_lt_of_le hq h.size)).trans (h.keep q hq h1 h2), own_below h.row7 hb, own_below h.row8 hb, h.own7, h.own8⟩
theorem rows_ne {w : World} {b1 b2 e1 e2 s1 s2 n1 n2 : Nat} {v1 v2 : Value} {x1 x2 : List Value} (h1 : w.ownsRow b1 e1 s1 v1 n1 x1) (h2 : w.ownsRow b2 e2 s2 v2 n2 x2) (hne : e1 ≠ e2) : v1.ownBlock = none ∨ v1.ownBlock ≠ v2.ownBlock := by
  cases h : v1.ownBlock with
  | none => exact .inl rfl
  | some q =>
    refine .inr fun e => ?_
    rcases h1.2 with ⟨rfl, _⟩ | ⟨g, cap, cur, rfl, _, hg, _⟩
    · simp [Value.ownBlock] at h
    · simp only [Value.ownBlock, Option.some.injEq] at h
      subst h
      exact row_ne h2 hg hne e.symm
theorem CG.app7 {A : World} {nV : Nat} {u7 u8 vr : Value} {nr : Nat} {xr : List Value} {vm : Value} {nm : Nat} {xm : List Value} {w w' : World} (h : CG A nV u7 u8 vr nr xr vm nm xm w) {g cap n' : Nat} {x' : List Value}
    (hown : w'.ownsRow (nV + 2) 40 2 (.slice (some ⟨g, 0, none⟩) n' cap) n' x') (hgrow : w.grownBy w' vr.ownBlock) (hat : vr.ownBlock = some g ∨ g = w.heap.size) : CG A nV u7 u8 (.slice (some ⟨g, 0, none⟩) n' cap) n' x' vm nm xm w' := by
  refine ⟨hgrow.os.trans h.os, hgrow.tape.trans h.tape, hgrow.output.trans h.output, Nat.le_trans h.size hgrow.size, fun q hq h1 h2 => ?_, hown, h.row8.kept hgrow (rows_ne h.row8 h.row7 (by decide)), fun q hq => ?_, h.own8⟩
  · refine (hgrow.block q (Nat.lt_of_lt_of_le hq h.size) (fun e => ?_)).trans (h.keep q hq h1 h2)
    rcases h.own7 q e.symm with e' | e'
    · exact h1 e'
    · omega
  · simp only [Value.ownBlock, Option.some.injEq] at hq
    subst hq
    rcases hat with hat | hat
    · exact h.own7 _ hat
    · have := h.size
      exact .inr (by omega)
theorem CG.app8 {A : World} {nV : Nat} {u7 u8 vr : Value} {nr : Nat} {xr : List Value} {vm : Value} {nm : Nat} {xm : List Value} {w w' : World} (h : CG A nV u7 u8 vr nr xr vm nm xm w) {g cap n' : Nat} {x' : List Value}
    (hown : w'.ownsRow (nV + 2) 27 1 (.slice (some ⟨g, 0, none⟩) n' cap) n' x') (hgrow : w.grownBy w' vm.ownBlock) (hat : vm.ownBlock = some g ∨ g = w.heap.size) : CG A nV u7 u8 vr nr xr (.slice (some ⟨g, 0, none⟩) n' cap) n' x' w' := by
  refine ⟨hgrow.os.trans h.os, hgrow.tape.trans h.tape, hgrow.output.trans h.output, Nat.le_trans h.size hgrow.size, fun q hq h1 h2 => ?_, h.row7.kept hgrow (rows_ne h.row7 h.row8 (by decide)), hown, h.own7, fun q hq => ?_⟩
  · refine (hgrow.block q (Nat.lt_of_lt_of_le hq h.size) (fun e => ?_)).trans (h.keep q hq h1 h2)
    rcases h.own8 q e.symm with e' | e'
    · exact h2 e'
    · omega
  · simp only [Value.ownBlock, Option.some.injEq] at hq
    subst hq
    rcases hat with hat | hat
    · exact h.own8 _ hat
    · have := h.size
      exact .inr (by omega)
/-- a new block of another kind than a row stays as it is while that row grows -/
theorem tmp_grown {w w' : World} {b e s n t g : Nat} {v : Value} {xs : List Value} {cs : Array Value} {fz : Nat × Nat} (hg : w.heap[g]? = some (.cells cs t fz)) (hr : w.ownsRow b e s v n xs) (hgrow : w.grownBy w' v.ownBlock) (hne : t ≠ e) : w'.heap[g]? = some (.cells cs t fz) :=
  (hgrow.block g (Array.getElem?_eq_some_iff.1 hg).1 (fun e' => row_ne hr hg hne e'.symm)).trans hg
theorem tmp_alloc {w : World} {g : Nat} {ob : Obj} (hg : w.heap[g]? = some ob) (o : Obj) : (w.alloc o).heap[g]? = some ob := ((al w o).block g (Array.getElem?_eq_some_iff.1 hg).1).trans hg

/-- how a round ends -/
theorem cend {w : World} {nV b7 b8 : Nat} {u7 u8 : Value} (pre : List El) (x : El) {A w7 F : World} {vr vm : Value} (h : CI w nV b7 b8 u7 u8 pre A) (h1 : b7 < nV) (h2 : b8 < nV) (h3 : w.heap.size + 2 < b7) (h4 : w.heap.size + 2 < b8)
    (hI : IsI A x.2 x.1.2.2) (haw : Away (fun k => COwn b7 b8 u7 u8 k ∨ k = nV + 1) x.2)
    (hg : CG A nV u7 u8 vr (pre.length + 1) (pre.flatMap rdE ++ [.int .i64 x.1.1, .int .i64 x.1.2.1]) vm (pre.length + 1) (pre.map Prod.snd ++ [x.2]) w7)
    (fo : F.os = w7.os) (ft : F.tape = w7.tape) (fp : F.output = w7.output) (fs : w7.heap.size ≤ F.heap.size) (f7 : Boxed F b7 43 vr) (f8 : Boxed F b8 64 vm) (fb : ∀ q, q < w7.heap.size → q ≠ b7 → q ≠ b8 → F.heap[q]? = w7.heap[q]?) :
    ∃ O', Kept (COwn b7 b8 u7 u8) O' A F ∧ CInv w nV b7 b8 (pre ++ [x]) O' F := by
  have hge7 := fun q (hq : u7.ownBlock = some q) => own_ge h.r7 hq
  have hge8 := fun q (hq : u8.ownBlock = some q) => own_ge h.r8 hq
  have s7 := hg.size
  have K : Kept (COwn b7 b8 u7 u8) (COwn b7 b8 vr vm) A F := by
    refine ⟨fo.trans hg.os, ft.trans hg.tape, fp.trans hg.output, by omega, fun q hq hno => ?_⟩
    simp only [COwn, not_or] at hno ⊢
    refine ⟨⟨hno.1, hno.2.1, fun e => ?_, fun e => ?_⟩, (fb q (by omega) hno.1 hno.2.1).trans (hg.keep q hq hno.2.2.1 hno.2.2.2)⟩
    · rcases hg.own7 q e with e' | e'
      · exact hno.2.2.1 e'
      · omega
    · rcases hg.own8 q e with e' | e'
      · exact hno.2.2.2 e'
      · omega
  have old : ∀ q, q < A.heap.size → q < nV → q ≠ b7 → q ≠ b8 → F.heap[q]? = A.heap[q]? := fun q hq hn n7 n8 => (K.block q hq (by
    rintro (e | e | e | e)
    · exact n7 e
    · exact n8 e
    · have := hge7 q e; omega
    · have := hge8 q e; omega)).2
  have rb : ∀ {v : Value} {e s n : Nat} {xs : List Value}, w7.ownsRow (nV + 2) e s v n xs → F.ownsRow (nV + 2) e s v n xs := by
    intro v e s n xs hr
    refine ⟨hr.1, ?_⟩
    rcases hr.2 with h' | ⟨g, cap, cur, hu, hb, hgg, hrest⟩
    · exact .inl h'
    · exact .inr ⟨g, cap, cur, hu, hb, (fb g (Array.getElem?_eq_some_iff.1 hgg).1 (by omega) (by omega)).trans hgg, hrest⟩
  have l2 := (Array.getElem?_eq_some_iff.1 h.e2).1
  have l3 := (Array.getElem?_eq_some_iff.1 h.e3).1
  refine ⟨_, K, vr, vm, rfl, f7, f8, ?_, ?_, ?_, (old _ l2 (by omega) (by omega) (by omega)).trans h.e2, (old _ l3 (by omega) (by omega) (by omega)).trans h.e3, K.below h.bel h.bel.size (fun q hq ho => ?_)⟩
  · rw [List.length_append, List.flatMap_append]
    simpa [rdE] using rb hg.row7
  · rw [List.length_append, List.map_append]
    simpa using rb hg.row8
  · intro z hz
    rcases List.mem_append.1 hz with hz | hz
    · exact isI_kept (h.each z hz).1 (h.each z hz).2 K
    · simp only [List.mem_singleton] at hz
      subst hz
      exact isI_kept hI (fun _ b o s len cap' e ho => haw b o s len cap' e (.inl ho)) K
  · rcases ho with e | e | e | e
    · omega
    · omega
    · have := hge7 q e; omega
    · have := hge8 q e; omega
theorem CI.ended {w : World} {nV b7 b8 : Nat} {u7 u8 : Value} {pre : List El} {A B : World} {d : Option (List Deferred)} (h : CI w nV b7 b8 u7 u8 pre A) (hr : A.heap[nV]? = some (.deferred d)) (hp : Past nV A B) (h1 : b7 < nV) (h2 : b8 < nV) (h3 : w.heap.size + 2 < nV) : CI w nV b7 b8 u7 u8 pre B :=
  ⟨(hp.block _ h.x7.lt (by omega)).trans h.x7, (hp.block _ h.x8.lt (by omega)).trans h.x8, own_past hp h.r7 (by omega), own_past hp h.r8 (by omega), fun x hx => ⟨row_def hr hp (h.each x hx).1, (h.each x hx).2⟩, (hp.block _ (Array.getElem?_eq_some_iff.1 h.e2).1 (by omega)).trans h.e2, (hp.block _ (Array.getElem?_eq_some_iff.1 h.e3).1 (by omega)).trans h.e3, below_past hp h.bel h.bel.size (by omega)⟩

/-- the first two that are the same -/
def clashL : List (Nat × Nat × List Int) → Option ((Nat × Nat) × (Nat × Nat))
  | [] => none
  | x :: l => match l.find? (fun z => z.2.2 == x.2.2) with
    | some z => some ((x.1, x.2.1), (z.1, z.2.1))
    | none => clashL l
def clA (o : Option ((Nat × Nat) × (Nat × Nat))) : Nat × Nat := (o.map Prod.fst).getD (0, 0)
def clB (o : Option ((Nat × Nat) × (Nat × Nat))) : Nat × Nat := (o.map Prod.snd).getD (0, 0)
end Go.Proofs.Ytkcbgapakpheiaa.Cl
/- The program's Clash. No conditions beyond how the lexicon lies. -/
namespace Go.Proofs.Ytkcbgapakpheiaa.Cm
open Go.RowKit Go.Shelf Sd Md Sc Aq Ls Lx Ly Lz Fo Mk Rf Tk Tk1 Rd Rf2 Fo2 Al2 Tk2 Tb Tc Ri Cl
attribute [local go_sem] Oper.semAt_some

def rv (p : Nat × Nat) : Value := .agg #[.int .i64 p.1, .int .i64 p.2]
def clX (y : VX) : Option ((Nat × Nat) × (Nat × Nat)) := if checkX y.lex = 0 then clashL (toldX y) else none

theorem two_of {W : World} {b : Nat} {x z : Value} {t : Nat} (h : W.heap[b]? = some (.cells #[x, z] t (0, 0))) : W.cell? ⟨b, 0, none⟩ = some x ∧ W.cell? ⟨b, 1, none⟩ = some z ∧ W.frozen? ⟨b, 0, none⟩ = false ∧ W.frozen? ⟨b, 1, none⟩ = false := by
  refine ⟨?_, ?_, ?_, ?_⟩ <;> simp [World.cell?, World.frozen?, h]

theorem below_set {n : Nat} {w W : World} (h : Below n w W) (a : Addr) (v : Value) (ha : n ≤ a.block) : Below n w (W.setCell a v) :=
  h.trans ⟨rfl, rfl, rfl, (KeepsWalks.setCell W a v).size, fun k hk => Below.heap_setCell _ _ _ k (by omega)⟩

set_option maxRecDepth 100000 in
theorem results13 (ts : Array Value) (b2 b3 : Nat) (W : World) {x z x' z' : Value} (h2 : ts.getD 2 undef = .pointer (some ⟨b2, 0, none⟩)) (h3 : ts.getD 3 undef = .pointer (some ⟨b3, 0, none⟩))
    (c1 : W.cell? ⟨b2, 0, none⟩ = some x) (c2 : W.cell? ⟨b2, 1, none⟩ = some z) (c3 : W.cell? ⟨b3, 0, none⟩ = some x') (c4 : W.cell? ⟨b3, 1, none⟩ = some z') :
    (results Try.f13 ts).run Try.prog W = .ok (.tuple #[.agg #[x, z], .agg #[x', z'], ts.getD 4 undef, ts.getD 5 undef]) W := by
  have e : Try.f13.results = #[.cell 2 40, .cell 3 40, .tmp 4, .tmp 5] := rfl
  have h2' : ts[2]?.getD undef = .pointer (some ⟨b2, 0, none⟩) := by simpa using h2
  have h3' : ts[3]?.getD undef = .pointer (some ⟨b3, 0, none⟩) := by simpa using h3
  clear h2 h3
  unfold results
  rw [e]
  go_simp

set_option maxHeartbeats 4000000 in
set_option maxRecDepth 100000 in
theorem clash_bad (y : VX) (w : World) (h : IsX w y) (hck : checkX y.lex ≠ 0) :
    Calls Try.prog 13 #[y.val] w fun e w' => e = .returned (.tuple #[rv (0, 0), rv (0, 0), .bool false, .int .i64 (checkX y.lex)]) ∧ Below w.heap.size w w' := by
  have hb3 : ∀ o1 o2 o3, Below w.heap.size w (((w.alloc o1).alloc o2).alloc o3) := fun o1 o2 o3 => (((Below.refl _ w).alloc (Nat.le_refl _) o1).alloc (by simp) o2).alloc (by simp; omega) o3
  have c10 := fun o1 o2 o3 => Xb.check_any y (((w.alloc o1).alloc o2).alloc o3) (h.below (hb3 o1 o2 o3))
  have hne : (checkX y.lex != 0) = true := by simpa using hck
  generalize checkX y.lex = r at c10 hne
  obtain ⟨k, vs, vc, vh, sts, ces, xs⟩ := y
  simp only [VX.val] at c10 ⊢
  have z2 : ∀ o o3, (((w.alloc o).alloc (.cells #[.int .i64 0, .int .i64 0] 40)).alloc o3).heap[w.heap.size + 1]? = some (.cells #[.int .i64 0, .int .i64 0] 40 (0, 0)) := by
    intro o o3
    have := World.alloc_heap_new (w.alloc o) (.cells #[.int .i64 0, .int .i64 0] 40)
    rw [World.size_alloc] at this
    exact ((al _ o3).block _ (by simp)).trans this
  have z3 : ∀ o o2, (((w.alloc o).alloc o2).alloc (.cells #[.int .i64 0, .int .i64 0] 40)).heap[w.heap.size + 1 + 1]? = some (.cells #[.int .i64 0, .int .i64 0] 40 (0, 0)) := by
    intro o o2
    have := World.alloc_heap_new ((w.alloc o).alloc o2) (.cells #[.int .i64 0, .int .i64 0] 40)
    rw [World.size_alloc, World.size_alloc] at this
    exact this
  clear h hck
  refine (callsIn_wide (n := 5)).1 ?_
  refine callsIn_of_wp_marks Try.func13 rfl trivial (wpIn_wide.2 ?_) rfl
  simp only [Try.ntmps13, List.size_toArray, List.length_cons, List.length_nil, Nat.reduceAdd, Nat.reduceSub, Array.replicate_succ, Array.replicate_zero, List.push_toArray, List.append_toArray, List.nil_append, List.cons_append]
  go_wp2_with (go_at_call 10; refine (c10 _ _ _).mono ?_; rintro e w1 ⟨rfl, hb⟩; obtain ⟨g1, g2, g3, g4⟩ := two_of ((hb.block (w.heap.size + 1) (by simp)).trans (z2 _ _)); obtain ⟨g5, g6, g7, g8⟩ := two_of ((hb.block (w.heap.size + 1 + 1) (by simp)).trans (z3 _ _)))
  refine ⟨_, results13 _ (w.heap.size + 1) (w.heap.size + 1 + 1) _ rfl rfl (x := .int .i64 0) (z := .int .i64 0) (x' := .int .i64 0) (z' := .int .i64 0) (by go_simp) (by go_simp) (by go_simp) (by go_simp), rfl, ?_⟩
  have B1 := (hb3 _ _ _).trans (hb.mono (hb3 _ _ _).size)
  exact below_set (below_set (below_set (below_set B1 _ _ (by dsimp only; omega)) _ _ (by dsimp only; omega)) _ _ (by dsimp only; omega)) _ _ (by dsimp only; omega)
end Go.Proofs.Ytkcbgapakpheiaa.Cm
/- The program's Clash, of a right lexicon. No conditions beyond how the lexicon lies. -/
namespace Go.Proofs.Ytkcbgapakpheiaa.Cn
open Go.RowKit Go.Shelf Sd Md Sc Aq Ls Lx Ly Lz Fo Mk Rf Tk Tk1 Rd Rf2 Fo2 Al2 Tk2 Tb Tc Ri Cl Cm Rs
attribute [local go_sem] Oper.semAt_some

def one8 (x : El) : List Value := [x.2]
def el8 (W : World) (x : El) : Prop := IsI W x.2 x.1.2.2
theorem el8_up (w w' : World) (p : El) (hb : Below w.heap.size w w') (h : el8 w p) : el8 w' p := IsI.below h (Nat.le_refl _) hb
theorem flat8 (l : List El) : l.flatMap one8 = l.map Prod.snd := by
  induction l with
  | nil => rfl
  | cons a l ih => rw [List.flatMap_cons, ih]; rfl
theorem clash_at {L : List (Nat × Nat × List Int)} {i : Nat} (hi : i < L.length) : clashL (L.drop i) = match (L.drop (i + 1)).find? (fun z => z.2.2 == (L[i]).2.2) with
    | some z => some (((L[i]).1, (L[i]).2.1), (z.1, z.2.1))
    | none => clashL (L.drop (i + 1)) := by
  rw [List.drop_eq_getElem_cons hi]
  rfl
theorem find_at {L : List (Nat × Nat × List Int)} {k : Nat} (p : Nat × Nat × List Int → Bool) (hk : k < L.length) : (L.drop k).find? p = if p L[k] then some L[k] else (L.drop (k + 1)).find? p := by
  rw [List.drop_eq_getElem_cons hk, List.find?_cons]
  cases p L[k] <;> rfl

set_option maxHeartbeats 8000000 in
set_option maxRecDepth 100000 in
theorem clash_good (y : VX) (w : World) (h : IsX w y) (hck : checkX y.lex = 0) :
    Calls Try.prog 13 #[y.val] w fun e w' => e = .returned (.tuple #[rv (clA (clashL (toldX y))), rv (clB (clashL (toldX y))), .bool (clashL (toldX y)).isSome, .int .i64 0]) ∧ Below w.heap.size w w' := by
  have hb3 : ∀ o1 o2 o3, Below w.heap.size w (((w.alloc o1).alloc o2).alloc o3) := fun o1 o2 o3 => (((Below.refl _ w).alloc (Nat.le_refl _) o1).alloc (by simp) o2).alloc (by simp; omega) o3
  have c10 := fun o1 o2 o3 => Xb.check_any y (((w.alloc o1).alloc o2).alloc o3) (h.below (hb3 o1 o2 o3))
  have hlens := lens_of hck
  have hT : (toldX y).length ≤ 800 := Nat.le_trans (toldX_len y) (Nat.mul_le_mul (many_of hck).1 (many_of hck).2)
  rw [hck] at c10
  have c24 := fun W => callsIn_wide.1 (told_any y W)
  obtain ⟨LC, hLC⟩ : ∃ z, clashL (toldX y) = z := ⟨_, rfl⟩
  have HLC : Hid (clashL (toldX y) = LC) := hLC
  rw [hLC]
  clear hLC hck
  obtain ⟨k, vs, vc, vh, sts, ces, xs⟩ := y
  simp only [VX.val] at c10 c24 ⊢
  have z2 : ∀ o o3, (((w.alloc o).alloc (.cells #[.int .i64 0, .int .i64 0] 40)).alloc o3).heap[w.heap.size + 1]? = some (.cells #[.int .i64 0, .int .i64 0] 40 (0, 0)) := by
    intro o o3
    have := World.alloc_heap_new (w.alloc o) (.cells #[.int .i64 0, .int .i64 0] 40)
    rw [World.size_alloc] at this
    exact ((al _ o3).block _ (by simp)).trans this
  have z3 : ∀ o o2, (((w.alloc o).alloc o2).alloc (.cells #[.int .i64 0, .int .i64 0] 40)).heap[w.heap.size + 1 + 1]? = some (.cells #[.int .i64 0, .int .i64 0] 40 (0, 0)) := by
    intro o o2
    have := World.alloc_heap_new ((w.alloc o).alloc o2) (.cells #[.int .i64 0, .int .i64 0] 40)
    rw [World.size_alloc, World.size_alloc] at this
    exact this
  have bx0 := fun o2 o3 => ((Bx4.new w k vs vc vh).below (al _ o2)).below (al _ o3)
  refine (callsIn_wide (n := 5)).1 ?_
  refine callsIn_of_wp_marks Try.func13 rfl trivial (wpIn_wide.2 ?_) rfl
  simp only [Try.ntmps13, List.size_toArray, List.length_cons, List.length_nil, Nat.reduceAdd, Nat.reduceSub, Array.replicate_succ, Array.replicate_zero, List.push_toArray, List.append_toArray, List.nil_append, List.cons_append]
  go_wp2_with (first
    | (go_at_call 10; refine (c10 _ _ _).mono ?_; rintro e w1 ⟨rfl, hb⟩; have g2 := (hb.block (w.heap.size + 1) (by simp)).trans (z2 _ _); have g3 := (hb.block (w.heap.size + 1 + 1) (by simp)).trans (z3 _ _); have x1 := (bx0 _ _).below hb; have B1 := (hb3 _ _ _).trans (hb.mono (hb3 _ _ _).size); have q0 := fun o o' => ((x1.below (al w1 o)).below (al _ o')).g0; have q1 := fun o o' => ((x1.below (al w1 o)).below (al _ o')).g1; have q2 := fun o o' => ((x1.below (al w1 o)).below (al _ o')).g2; have q3 := fun o o' => ((x1.below (al w1 o)).below (al _ o')).g3)
    | (go_at_call 24; refine (c24 _).mono ?_; rintro e w5 ⟨rfl, rfl⟩))
  clear c24 c10 q0 q1 q2 q3 bx0 hb z2 z3
  obtain ⟨V, hV⟩ : ∃ V, ((w1.alloc (.cells #[.slice none 0 0] 43)).alloc (.cells #[.slice none 0 0] 64)).alloc (.cells #[.int .i64 k, vs, vc, vh] 26) = V := ⟨_, rfl⟩
  have b7V : Boxed V w1.heap.size 43 (.slice none 0 0) := by rw [← hV]; exact ((Boxed.new _ _ _).alloc _).alloc _
  have b8V : Boxed V (w1.heap.size + 1) 64 (.slice none 0 0) := by
    have := Boxed.new (w1.alloc (.cells #[.slice none 0 0] 43)) 64 (.slice none 0 0)
    rw [World.size_alloc] at this
    rw [← hV]
    exact this.alloc _
  have bB : Bx4 (w1.heap.size + 1 + 1) k vs vc vh V := by
    have := Bx4.new ((w1.alloc (.cells #[.slice none 0 0] 43)).alloc (.cells #[.slice none 0 0] 64)) k vs vc vh
    rw [World.size_alloc, World.size_alloc] at this
    rw [← hV]
    exact this
  have BV1 : Below w1.heap.size w1 V := by rw [← hV]; exact (((Below.refl _ w1).alloc (Nat.le_refl _) _).alloc (by simp) _).alloc (by simp; omega) _
  have BV : Below w.heap.size w V := B1.trans (BV1.mono B1.size)
  have sV : V.heap.size = w1.heap.size + 3 := by rw [← hV]; simp
  have l2 := (Array.getElem?_eq_some_iff.1 g2).1
  have l3 := (Array.getElem?_eq_some_iff.1 g3).1
  have G2 := (BV1.block _ l2).trans g2
  have G3 := (BV1.block _ l3).trans g3
  rw [hV]
  clear hV g2 g3 x1 B1
  refine wpIn_wide.1 (range_tells2 (n := 5) rfl (by omega) (gf := 45) (lb := #[.pointer (some ⟨w1.heap.size + 1 + 1, 0, none⟩)]) rfl trivial (enters_of Try.func45 (by kernel_rfl) rfl)
    (told1_new ⟨k, vs, vc, vh, sts, ces, xs⟩ w V (w1.heap.size + 1 + 1) (5 - 1) (by omega) h BV bB hlens.1 hlens.2) (Below.refl _ _) ?hX (fun _ => rfl) (CInv w V.heap.size w1.heap.size (w1.heap.size + 1)) ?hI ?hO (COwn w1.heap.size (w1.heap.size + 1) (.slice none 0 0) (.slice none 0 0)) ?h0 ?hround ?hdone)
  case hX =>
    rintro q (hq | rfl)
    · have := BV.size
      omega
    · omega
  case hI =>
    intro pre O A B hi hr hp
    exact hi.past hr hp (by omega) (by omega) (by omega)
  case hO =>
    rintro pre O A q ⟨u7, u8, rfl, ht⟩ (rfl | rfl | hq | hq)
    · exact ⟨by rintro (e | e) <;> omega, ht.x7.lt, by omega, by omega⟩
    · exact ⟨by rintro (e | e) <;> omega, ht.x8.lt, by omega, by omega⟩
    · obtain ⟨h1, h2⟩ := own_ge ht.r7 hq
      exact ⟨by have := BV.size; rintro (e | e) <;> omega, h2, by omega, by omega⟩
    · obtain ⟨h1, h2⟩ := own_ge ht.r8 hq
      exact ⟨by have := BV.size; rintro (e | e) <;> omega, h2, by omega, by omega⟩
  case h0 =>
    intro A hA
    exact ⟨.slice none 0 0, .slice none 0 0, rfl, (hA.block _ (by omega)).trans b7V, (hA.block _ (by omega)).trans b8V, World.ownsRow_nil _ _ _ _, World.ownsRow_nil _ _ _ _, (fun x hx => by cases hx), (hA.block _ (by omega)).trans G2, (hA.block _ (by omega)).trans G3, BV.trans (hA.mono BV.size)⟩
  case hround =>
    rintro pre O ⟨⟨i, m, fm⟩, v⟩ A hA hrec hinv ⟨hvI, hpre, haw⟩
    dsimp only at hvI hpre haw
    obtain ⟨va, vc', hv, _, _⟩ := hvI.len
    subst hv
    refine ⟨{ tmps := #[.agg #[.int .i64 k, vs, vc, vh], .pointer (some ⟨w.heap.size, 0, none⟩), .pointer (some ⟨w.heap.size + 1, 0, none⟩), .pointer (some ⟨w.heap.size + 1 + 1, 0, none⟩), .bool false, .int .i64 0, .int .i64 0, .pointer (some ⟨w1.heap.size, 0, none⟩), .pointer (some ⟨w1.heap.size + 1, 0, none⟩), .pointer (some ⟨A.heap.size, 0, none⟩), .slice va fm.length vc', undef, undef, undef, .agg #[.int .i64 k, vs, vc, vh], .int .i64 0, .int .i64 0, .bool false, undef, undef, undef, .agg #[.int .i64 k, vs, vc, vh], .func (.func 45) #[] #[.pointer (some ⟨w1.heap.size + 1 + 1, 0, none⟩)], .agg #[.int .i64 i, .int .i64 m], .slice va fm.length vc', undef, undef, undef, undef, undef, undef, undef, undef, undef, undef, undef, undef, undef, undef, undef, undef, undef, undef, undef, undef, undef, undef, undef, undef, undef, undef, undef, undef, undef, undef, undef, undef, undef, undef, undef, undef, undef, undef, undef, undef], defers := [] }, A.alloc (.cells #[.int .i64 i, .int .i64 m] 40), ?_, al _ _, ?_⟩
    · intro K hK
      simp only [encs]
      gi_wp2
      exact hK
    · intro r
      obtain ⟨A', hA'⟩ : ∃ A', (A.alloc (.cells #[.int .i64 i, .int .i64 m] 40)).putObj (V.heap.size + 1) (.loop r) = A' := ⟨_, rfl⟩
      have hP : Past (V.heap.size + 1) A A' := by rw [← hA']; exact (Past.of_below (al _ _)).trans (Past.put _ _ _)
      have hP2 : Past (V.heap.size + 1) (A.alloc (.cells #[.int .i64 i, .int .i64 m] 40)) A' := by rw [← hA']; exact Past.put _ _ _
      have hvI' : IsI A' (.slice va fm.length vc') fm := row_past hrec hP hvI
      obtain ⟨u7, u8, rfl, htA⟩ := hinv
      have ht := htA.past hrec hP (by omega) (by omega) (by omega)
      have nA7 : u7.ownBlock ≠ some A.heap.size := fun e => by have := (own_ge htA.r7 e).2; omega
      have nA8 : u8.ownBlock ≠ some A.heap.size := fun e => by have := (own_ge htA.r8 e).2; omega
      have hszA : V.heap.size + 2 ≤ A'.heap.size := Nat.le_trans hA hP.size
      have hblk : A'.heap[A.heap.size]? = some (.cells #[.int .i64 i, .int .i64 m] 40 (0, 0)) := (hP2.block A.heap.size (by simp) (by omega)).trans (World.alloc_heap_new A _)
      have hAA : A.heap.size < A'.heap.size := (Array.getElem?_eq_some_iff.1 hblk).1
      have hpl : pre.length ≤ 800 := by
        have h2 := hpre.length_le
        rw [List.length_append, List.length_map, List.length_singleton] at h2
        omega
      rw [hA']
      clear hA' hP hP2 hvI hrec hpre htA
      have g7 := fun q (hq : u7.ownBlock = some q) => own_ge ht.r7 hq
      have g8 := fun q (hq : u8.ownBlock = some q) => own_ge ht.r8 hq
      have BX : ∀ vr nr xr vm nm xm W, CG A' V.heap.size u7 u8 vr nr xr vm nm xm W → Boxed W w1.heap.size 43 u7 ∧ Boxed W (w1.heap.size + 1) 64 u8 ∧ W.heap[A.heap.size]? = some (.cells #[.int .i64 i, .int .i64 m] 40 (0, 0)) := by
        intro vr nr xr vm nm xm W hc
        refine ⟨(hc.keep _ ht.x7.lt (fun e => by have := g7 _ e; omega) (fun e => by have := g8 _ e; omega)).trans ht.x7, (hc.keep _ ht.x8.lt (fun e => by have := g7 _ e; omega) (fun e => by have := g8 _ e; omega)).trans ht.x8, (hc.keep _ hAA nA7 nA8).trans hblk⟩
      have SG : ∀ vr nr xr vm nm xm W, CG A' V.heap.size u7 u8 vr nr xr vm nm xm W → W.cell? ⟨w1.heap.size, 0, none⟩ = some u7 ∧ W.cell? ⟨w1.heap.size + 1, 0, none⟩ = some u8 ∧ W.cell? ⟨A.heap.size, 0, none⟩ = some (.int .i64 i) ∧ W.cell? ⟨A.heap.size, 1, none⟩ = some (.int .i64 m) := by
        intro vr nr xr vm nm xm W hc
        obtain ⟨h1, h2, h3⟩ := BX _ _ _ _ _ _ _ hc
        obtain ⟨h4, h5, _, _⟩ := two_of h3
        exact ⟨h1.cell, h2.cell, h4, h5⟩
      have cg0 := CG.start ht
      obtain ⟨i27, hi27, hz270, hz271, hz272⟩ := info_parts info27
      obtain ⟨i40, hi40, hz400, hz401, hz402⟩ := info_parts info40
      refine wpIn_block ?_
      refine region_split (Q' := fun e a W => match e with
          | .normal => ∃ g7 c7 g8 c8 t27 t31, a = ⟨#[.agg #[.int .i64 k, vs, vc, vh], .pointer (some ⟨w.heap.size, 0, none⟩), .pointer (some ⟨w.heap.size + 1, 0, none⟩), .pointer (some ⟨w.heap.size + 1 + 1, 0, none⟩), .bool false, .int .i64 0, .int .i64 0, .pointer (some ⟨w1.heap.size, 0, none⟩), .pointer (some ⟨w1.heap.size + 1, 0, none⟩), .pointer (some ⟨A.heap.size, 0, none⟩), .slice va fm.length vc', undef, undef, undef, .agg #[.int .i64 k, vs, vc, vh], .int .i64 0, .int .i64 0, .bool false, undef, undef, undef, .agg #[.int .i64 k, vs, vc, vh], .func (.func 45) #[] #[.pointer (some ⟨w1.heap.size + 1 + 1, 0, none⟩)], .agg #[.int .i64 i, .int .i64 m], .slice va fm.length vc', u7, .agg #[.int .i64 i, .int .i64 m], t27, .slice (some ⟨g7, 0, none⟩) (pre.length + 1) c7, u8, .slice va fm.length vc', t31, .slice (some ⟨g8, 0, none⟩) (pre.length + 1) c8, undef, undef, undef, undef, undef, undef, undef, undef, undef, undef, undef, undef, undef, undef, undef, undef, undef, undef, undef, undef, undef, undef, undef, undef, undef, undef, undef, undef, undef, undef, undef, undef], []⟩ ∧ CG A' V.heap.size u7 u8 (.slice (some ⟨g7, 0, none⟩) (pre.length + 1) c7) (pre.length + 1) (pre.flatMap rdE ++ [.int .i64 i, .int .i64 m]) (.slice (some ⟨g8, 0, none⟩) (pre.length + 1) c8) (pre.length + 1) (pre.map Prod.snd ++ [.slice va fm.length vc']) W
          | _ => False) (S := fun W => W.cell? ⟨w1.heap.size, 0, none⟩ = some u7 ∧ W.cell? ⟨w1.heap.size + 1, 0, none⟩ = some u8 ∧ W.cell? ⟨A.heap.size, 0, none⟩ = some (.int .i64 i) ∧ W.cell? ⟨A.heap.size, 1, none⟩ = some (.int .i64 m)) 8 (by kernel_rfl) (mild_of (by kernel_rfl)) (by rintro ⟨_, _, hh⟩; exact hh) rfl (by kernel_rfl) (by kernel_rfl) (by kernel_rfl) (fun _ _ _ hh => hh) (by rintro ⟨_, _, hh⟩; exact hh) ?hfin ?hmain
      case hfin =>
        rintro a W ⟨g7, c7, g8, c8, t27, t31, rfl, hcg⟩
        obtain ⟨bx7, bx8, _⟩ := BX _ _ _ _ _ _ _ hcg
        have cA := bx7.cell
        have fA := bx7.frozen
        have cA8 := bx8.cell
        have fA8 := bx8.frozen
        refine wpAny_of_held (S := fun _ => True) _ _ _ _ ?_
        refine one_at 8 (by kernel_rfl) rfl rfl ?_
        refine op_skip (w' := W.setCell ⟨w1.heap.size, 0, none⟩ (.slice (some ⟨g7, 0, none⟩) (pre.length + 1) c7)) rfl (by go_simp) ⟨trivial, ?_⟩
        have cB := (bx8.other (B' := w1.heap.size) (by omega) (.slice (some ⟨g7, 0, none⟩) (pre.length + 1) c7)).cell
        have fB := (bx8.other (B' := w1.heap.size) (by omega) (.slice (some ⟨g7, 0, none⟩) (pre.length + 1) c7)).frozen
        refine one_at 9 (by kernel_rfl) rfl rfl (op_skip (w' := (W.setCell ⟨w1.heap.size, 0, none⟩ (.slice (some ⟨g7, 0, none⟩) (pre.length + 1) c7)).setCell ⟨w1.heap.size + 1, 0, none⟩ (.slice (some ⟨g8, 0, none⟩) (pre.length + 1) c8)) rfl (by go_simp) ⟨trivial, ?_⟩)
        refine wpAnyH_done (by kernel_rfl) ?_ _
        exact cend pre ((i, m, fm), .slice va fm.length vc') (w7 := W) ht (by omega) (by omega) (by omega) (by omega) hvI' haw hcg rfl rfl rfl (by simp [World.setCell]) ((bx7.set (.slice (some ⟨g7, 0, none⟩) (pre.length + 1) c7)).other (by omega) _) ((bx8.other (by omega) _).set (.slice (some ⟨g8, 0, none⟩) (pre.length + 1) c8)) (fun q _ n7 n8 => (Below.heap_setCell _ _ _ q n8).trans (Below.heap_setCell _ _ _ q n7))
      case hmain =>
        simp only [List.take_succ_cons, List.take_zero]
        obtain ⟨W0, hW0⟩ : ∃ W, A'.drew = W := ⟨_, rfl⟩
        rw [hW0] at cg0 ⊢
        clear hW0
        refine take_at 0 25 (u7) rfl rfl rfl (by kernel_rfl) (by kernel_rfl) (by kernel_rfl) (fun _ _ _ h => h) (fun w hSw => by go_simp) (SG _ _ _ _ _ _ _ cg0) ?_
        simp only [List.setIfInBounds_toArray, List.set_cons_zero, List.set_cons_succ]
        refine take_at 1 26 (.agg #[.int .i64 i, .int .i64 m]) rfl rfl rfl (by kernel_rfl) (by kernel_rfl) (by kernel_rfl) (fun _ _ _ h => h) (fun w hSw => by go_simp) (SG _ _ _ _ _ _ _ cg0) ?_
        simp only [List.setIfInBounds_toArray, List.set_cons_zero, List.set_cons_succ]
        refine take_at 4 29 (u8) rfl rfl rfl (by kernel_rfl) (by kernel_rfl) (by kernel_rfl) (fun _ _ _ h => h) (fun w hSw => by go_simp) (SG _ _ _ _ _ _ _ cg0) ?_
        simp only [List.setIfInBounds_toArray, List.set_cons_zero, List.set_cons_succ]
        refine take_at 5 30 (.slice va fm.length vc') rfl rfl rfl (by kernel_rfl) (by kernel_rfl) (by kernel_rfl) (fun _ _ _ h => h) (fun w hSw => by go_simp) (SG _ _ _ _ _ _ _ cg0) ?_
        simp only [List.setIfInBounds_toArray, List.set_cons_zero, List.set_cons_succ]
        refine two_at 2 6 (by kernel_rfl) rfl rfl rfl rfl ?_ ?_
        · refine op_value (.slice (some ⟨W0.heap.size, 0, none⟩) 1 1) 27 (w' := W0.alloc (.cells #[.int .i64 i, .int .i64 m] 40)) rfl (by go_simp) ?_
          have cg1 := cg0.alloc (.cells #[.int .i64 i, .int .i64 m] 40)
          have tn1 := World.alloc_heap_new W0 (.cells #[.int .i64 i, .int .i64 m] 40)
          generalize W0.heap.size = gt1 at tn1 ⊢
          generalize W0.alloc (.cells #[.int .i64 i, .int .i64 m] 40) = W1 at cg1 tn1 ⊢
          refine ⟨SG _ _ _ _ _ _ _ cg1, ?_⟩
          simp only [List.setIfInBounds_toArray, List.set_cons_zero, List.set_cons_succ]
          refine two_at 3 6 (by kernel_rfl) rfl rfl rfl rfl ?_ ?_
          · refine wp_append_lies _ (.tmp 25) (.tmp 27) 43 rfl (V.heap.size + 2) 40 i40 (.agg #[.int .i64 0, .int .i64 0]) 2 16 Try.underlying43 hi40 hz400 hz401 hz402 rfl (by decide) u7 pre.length _ rfl cg1.row7 ⟨gt1, 0, none⟩ 1 1 [.int .i64 i, .int .i64 m] rfl rfl (World.news_of_block tn1) (by simp [Value.oneCell']) (by decide) (by unfold maxLen; omega) (by omega) (Nat.le_trans hszA cg1.size) _ rfl ?_
            intro ga2 ca2 W2 hown2 hgrow2 hat2 _
            have cg2 := cg1.app7 hown2 hgrow2 hat2
            clear hown2 hgrow2 hat2
            refine ⟨SG _ _ _ _ _ _ _ cg2, ?_⟩
            show wpAnyH _ _ _ _ _ _ _ ⟨Array.setIfInBounds _ 28 (.slice (some ⟨ga2, 0, none⟩) (pre.length + 1) ca2), _⟩ _
            simp only [List.setIfInBounds_toArray, List.set_cons_zero, List.set_cons_succ]
            refine one_at 6 (by kernel_rfl) rfl rfl ?_
            refine op_value (.slice (some ⟨W2.heap.size, 0, none⟩) 1 1) 31 (w' := W2.alloc (.cells #[.slice va fm.length vc'] 27)) rfl (by go_simp) ?_
            have cg3 := cg2.alloc (.cells #[.slice va fm.length vc'] 27)
            have tn3 := World.alloc_heap_new W2 (.cells #[.slice va fm.length vc'] 27)
            have tk3tr := tmp_alloc tn1 (.cells #[.slice va fm.length vc'] 27)
            generalize W2.heap.size = gt3 at tn3 ⊢
            generalize W2.alloc (.cells #[.slice va fm.length vc'] 27) = W3 at cg3 tn3 tk3tr ⊢
            refine ⟨SG _ _ _ _ _ _ _ cg3, ?_⟩
            simp only [List.setIfInBounds_toArray, List.set_cons_zero, List.set_cons_succ]
            refine one_at 7 (by kernel_rfl) rfl rfl ?_
            refine wp_append_lies _ (.tmp 29) (.tmp 31) 64 rfl (V.heap.size + 2) 27 i27 (.slice none 0 0) 1 24 Try.underlying64 hi27 hz270 hz271 hz272 rfl (by decide) u8 pre.length _ rfl cg3.row8 ⟨gt3, 0, none⟩ 1 1 [.slice va fm.length vc'] rfl rfl (World.news_of_block tn3) (by simp [Value.oneCell']) (by decide) (by unfold maxLen; omega) (by omega) (Nat.le_trans hszA cg3.size) _ rfl ?_
            intro ga4 ca4 W4 hown4 hgrow4 hat4 _
            have cg4 := cg3.app8 hown4 hgrow4 hat4
            clear hown4 hgrow4 hat4
            refine ⟨SG _ _ _ _ _ _ _ cg4, ?_⟩
            show wpAnyH _ _ _ _ _ _ _ ⟨Array.setIfInBounds _ 32 (.slice (some ⟨ga4, 0, none⟩) (pre.length + 1) ca4), _⟩ _
            simp only [List.setIfInBounds_toArray, List.set_cons_zero, List.set_cons_succ]
            refine wpAnyH_done (by kernel_rfl) ?_ _
            exact ⟨_, _, _, _, _, _, rfl, cg4⟩
          · refine op_value (.slice (some ⟨W1.heap.size, 0, none⟩) 1 1) 31 (w' := W1.alloc (.cells #[.slice va fm.length vc'] 27)) rfl (by go_simp) ?_
            have cg5 := cg1.alloc (.cells #[.slice va fm.length vc'] 27)
            have tn5 := World.alloc_heap_new W1 (.cells #[.slice va fm.length vc'] 27)
            have tk5tr := tmp_alloc tn1 (.cells #[.slice va fm.length vc'] 27)
            generalize W1.heap.size = gt5 at tn5 ⊢
            generalize W1.alloc (.cells #[.slice va fm.length vc'] 27) = W5 at cg5 tn5 tk5tr ⊢
            refine ⟨SG _ _ _ _ _ _ _ cg5, ?_⟩
            simp only [List.setIfInBounds_toArray, List.set_cons_zero, List.set_cons_succ]
            refine one_at 3 (by kernel_rfl) rfl rfl ?_
            refine wp_append_lies _ (.tmp 25) (.tmp 27) 43 rfl (V.heap.size + 2) 40 i40 (.agg #[.int .i64 0, .int .i64 0]) 2 16 Try.underlying43 hi40 hz400 hz401 hz402 rfl (by decide) u7 pre.length _ rfl cg5.row7 ⟨gt1, 0, none⟩ 1 1 [.int .i64 i, .int .i64 m] rfl rfl (World.news_of_block tk5tr) (by simp [Value.oneCell']) (by decide) (by unfold maxLen; omega) (by omega) (Nat.le_trans hszA cg5.size) _ rfl ?_
            intro ga6 ca6 W6 hown6 hgrow6 hat6 _
            have cg6 := cg5.app7 hown6 hgrow6 hat6
            have tk6 := tmp_grown tn5 cg5.row7 hgrow6 (by decide)
            clear hown6 hgrow6 hat6
            refine ⟨SG _ _ _ _ _ _ _ cg6, ?_⟩
            show wpAnyH _ _ _ _ _ _ _ ⟨Array.setIfInBounds _ 28 (.slice (some ⟨ga6, 0, none⟩) (pre.length + 1) ca6), _⟩ _
            simp only [List.setIfInBounds_toArray, List.set_cons_zero, List.set_cons_succ]
            refine one_at 7 (by kernel_rfl) rfl rfl ?_
            refine wp_append_lies _ (.tmp 29) (.tmp 31) 64 rfl (V.heap.size + 2) 27 i27 (.slice none 0 0) 1 24 Try.underlying64 hi27 hz270 hz271 hz272 rfl (by decide) u8 pre.length _ rfl cg6.row8 ⟨gt5, 0, none⟩ 1 1 [.slice va fm.length vc'] rfl rfl (World.news_of_block tk6) (by simp [Value.oneCell']) (by decide) (by unfold maxLen; omega) (by omega) (Nat.le_trans hszA cg6.size) _ rfl ?_
            intro ga7 ca7 W7 hown7 hgrow7 hat7 _
            have cg7 := cg6.app8 hown7 hgrow7 hat7
            clear hown7 hgrow7 hat7
            refine ⟨SG _ _ _ _ _ _ _ cg7, ?_⟩
            show wpAnyH _ _ _ _ _ _ _ ⟨Array.setIfInBounds _ 32 (.slice (some ⟨ga7, 0, none⟩) (pre.length + 1) ca7), _⟩ _
            simp only [List.setIfInBounds_toArray, List.set_cons_zero, List.set_cons_succ]
            refine wpAnyH_done (by kernel_rfl) ?_ _
            exact ⟨_, _, _, _, _, _, rfl, cg7⟩
        · refine op_value (.slice (some ⟨W0.heap.size, 0, none⟩) 1 1) 31 (w' := W0.alloc (.cells #[.slice va fm.length vc'] 27)) rfl (by go_simp) ?_
          have cg8 := cg0.alloc (.cells #[.slice va fm.length vc'] 27)
          have tn8 := World.alloc_heap_new W0 (.cells #[.slice va fm.length vc'] 27)
          generalize W0.heap.size = gt8 at tn8 ⊢
          generalize W0.alloc (.cells #[.slice va fm.length vc'] 27) = W8 at cg8 tn8 ⊢
          refine ⟨SG _ _ _ _ _ _ _ cg8, ?_⟩
          simp only [List.setIfInBounds_toArray, List.set_cons_zero, List.set_cons_succ]
          refine one_at 2 (by kernel_rfl) rfl rfl ?_
          refine op_value (.slice (some ⟨W8.heap.size, 0, none⟩) 1 1) 27 (w' := W8.alloc (.cells #[.int .i64 i, .int .i64 m] 40)) rfl (by go_simp) ?_
          have cg9 := cg8.alloc (.cells #[.int .i64 i, .int .i64 m] 40)
          have tn9 := World.alloc_heap_new W8 (.cells #[.int .i64 i, .int .i64 m] 40)
          have tk9tm := tmp_alloc tn8 (.cells #[.int .i64 i, .int .i64 m] 40)
          generalize W8.heap.size = gt9 at tn9 ⊢
          generalize W8.alloc (.cells #[.int .i64 i, .int .i64 m] 40) = W9 at cg9 tn9 tk9tm ⊢
          refine ⟨SG _ _ _ _ _ _ _ cg9, ?_⟩
          simp only [List.setIfInBounds_toArray, List.set_cons_zero, List.set_cons_succ]
          refine one_at 3 (by kernel_rfl) rfl rfl ?_
          refine wp_append_lies _ (.tmp 25) (.tmp 27) 43 rfl (V.heap.size + 2) 40 i40 (.agg #[.int .i64 0, .int .i64 0]) 2 16 Try.underlying43 hi40 hz400 hz401 hz402 rfl (by decide) u7 pre.length _ rfl cg9.row7 ⟨gt9, 0, none⟩ 1 1 [.int .i64 i, .int .i64 m] rfl rfl (World.news_of_block tn9) (by simp [Value.oneCell']) (by decide) (by unfold maxLen; omega) (by omega) (Nat.le_trans hszA cg9.size) _ rfl ?_
          intro ga10 ca10 W10 hown10 hgrow10 hat10 _
          have cg10 := cg9.app7 hown10 hgrow10 hat10
          have tk10 := tmp_grown tk9tm cg9.row7 hgrow10 (by decide)
          clear hown10 hgrow10 hat10
          refine ⟨SG _ _ _ _ _ _ _ cg10, ?_⟩
          show wpAnyH _ _ _ _ _ _ _ ⟨Array.setIfInBounds _ 28 (.slice (some ⟨ga10, 0, none⟩) (pre.length + 1) ca10), _⟩ _
          simp only [List.setIfInBounds_toArray, List.set_cons_zero, List.set_cons_succ]
          refine one_at 7 (by kernel_rfl) rfl rfl ?_
          refine wp_append_lies _ (.tmp 29) (.tmp 31) 64 rfl (V.heap.size + 2) 27 i27 (.slice none 0 0) 1 24 Try.underlying64 hi27 hz270 hz271 hz272 rfl (by decide) u8 pre.length _ rfl cg10.row8 ⟨gt8, 0, none⟩ 1 1 [.slice va fm.length vc'] rfl rfl (World.news_of_block tk10) (by simp [Value.oneCell']) (by decide) (by unfold maxLen; omega) (by omega) (Nat.le_trans hszA cg10.size) _ rfl ?_
          intro ga11 ca11 W11 hown11 hgrow11 hat11 _
          have cg11 := cg10.app8 hown11 hgrow11 hat11
          clear hown11 hgrow11 hat11
          refine ⟨SG _ _ _ _ _ _ _ cg11, ?_⟩
          show wpAnyH _ _ _ _ _ _ _ ⟨Array.setIfInBounds _ 32 (.slice (some ⟨ga11, 0, none⟩) (pre.length + 1) ca11), _⟩ _
          simp only [List.setIfInBounds_toArray, List.set_cons_zero, List.set_cons_succ]
          refine wpAnyH_done (by kernel_rfl) ?_ _
          exact ⟨_, _, _, _, _, _, rfl, cg11⟩
  case hdone =>
    rintro ys O A hA hS ⟨u7, u8, rfl, ht⟩ hdf
    have hVgt : w1.heap.size + 2 < V.heap.size := by omega
    clear sV
    have hn : ys.length ≤ 800 := by
      have := congrArg List.length hS
      rw [List.length_map] at this
      omega
    obtain ⟨L, hL⟩ : ∃ L, toldX ⟨k, vs, vc, vh, sts, ces, xs⟩ = L := ⟨_, rfl⟩
    rw [hL] at hS HLC
    have hLl : L.length = ys.length := by rw [← hS, List.length_map]
    have hLi : ∀ i (hi : i < ys.length), L[i]'(by omega) = (ys[i]).1 := by
      intro i hi
      have : (ys.map Prod.fst)[i]? = L[i]? := by rw [hS]
      rw [List.getElem?_map, List.getElem?_eq_getElem hi, List.getElem?_eq_getElem (by omega)] at this
      simpa using this.symm
    have R8 : IsR one8 1 el8 A u8 ys := ⟨by rw [flat8]; exact row_of_own ht.r8 (by omega), fun x hx => (ht.each x hx).1⟩
    have R7 : IsR rdE 2 (fun _ _ => True) A u7 ys := ⟨row_of_own ht.r7 (by omega), fun _ _ => trivial⟩
    obtain ⟨a8, c8, hv8, _, _⟩ := R8.len
    subst hv8
    obtain ⟨a7, c7, hv7, _, _⟩ := R7.len
    subst hv7
    have x8 := ht.x8.cell
    have x7 := ht.x7.cell
    obtain ⟨y1, y2, y3, y4⟩ := two_of ht.e2
    obtain ⟨y5, y6, y7, y8⟩ := two_of ht.e3
    have HB : Hid (Below w.heap.size w A) := ht.bel
    have HD : Hid (A.heap[V.heap.size]? = some (.deferred (some []))) := hdf
    have HN : Hid (ys.length ≤ 800) := hn
    have HE : Hid (CI w V.heap.size w1.heap.size (w1.heap.size + 1) (.slice a7 ys.length c7) (.slice a8 ys.length c8) ys A) := ht
    have FIN : ∀ (W : World) (x z x' z' : Int) (ts : Array Value) (b : Bool) (da : List Deferred), ts.getD 2 undef = .pointer (some ⟨w.heap.size + 1, 0, none⟩) → ts.getD 3 undef = .pointer (some ⟨w.heap.size + 1 + 1, 0, none⟩) → ts.getD 4 undef = .bool b → ts.getD 5 undef = .int .i64 0 →
        da = [{ target := .collected V.heap.size, args := #[] }] → W.cell? ⟨w.heap.size + 1, 0, none⟩ = some (.int .i64 x) → W.cell? ⟨w.heap.size + 1, 1, none⟩ = some (.int .i64 z) → W.cell? ⟨w.heap.size + 1 + 1, 0, none⟩ = some (.int .i64 x') → W.cell? ⟨w.heap.size + 1 + 1, 1, none⟩ = some (.int .i64 z') →
        W.heap[V.heap.size]? = some (.deferred (some [])) → Below w.heap.size w W → (Value.tuple #[.agg #[.int .i64 x, .int .i64 z], .agg #[.int .i64 x', .int .i64 z'], .bool b, .int .i64 0] = .tuple #[rv (clA LC), rv (clB LC), .bool LC.isSome, .int .i64 0]) →
        bodyPostM Fence.wide 5 Try.prog Try.f13 (fun e w' => e = Ending.returned (.tuple #[rv (clA LC), rv (clB LC), .bool LC.isSome, .int .i64 0]) ∧ Below w.heap.size w w') .ret ⟨ts, da⟩ W := by
      intro W x z x' z' ts b da t2 t3 t4 t5 hda k1 k2 k3 k4 hd hB hv
      subst hda
      have hP := Past.put V.heap.size W (.deferred none)
      have bl : ∀ (bb off : Nat) (v : Value), bb ≠ V.heap.size → W.cell? ⟨bb, off, none⟩ = some v → (W.putObj V.heap.size (.deferred none)).cell? ⟨bb, off, none⟩ = some v := fun bb off v hne hc => (World.cell?_of_block (a := ⟨bb, off, none⟩) (hP.block bb (World.block_lt_of_cell? _ _ hc) hne)).trans hc
      refine ⟨by simp, .inl ⟨_, _, rfl, run_takeDeferred hd, ?_⟩⟩
      refine ⟨_, results13 _ (w.heap.size + 1) (w.heap.size + 1 + 1) _ t2 t3 (bl _ _ _ (by omega) k1) (bl _ _ _ (by omega) k2) (bl _ _ _ (by omega) k3) (bl _ _ _ (by omega) k4), ?_, below_past hP hB hB.size (by have := BV.size; omega)⟩
      rw [t4, t5, hv]
    have HR7 : Hid (IsR rdE 2 (fun _ _ => True) A (.slice a7 ys.length c7) ys) := R7
    have HR8 : Hid (IsR one8 1 el8 A (.slice a8 ys.length c8) ys) := R8
    have HLi : Hid (∀ i (hi : i < ys.length), L[i]'(by omega) = (ys[i]).1) := hLi
    clear ht hdf hS hL hlens hT R7 R8 hn hLi
    go_wp2
    go_loopw [35] (fun i wr => ∃ n q : Nat, i = .int .i64 n ∧ n ≤ ys.length ∧ wr = A.drewN q ∧ Hid (LC = clashL (L.drop n))) (fun i _ => ys.length - (intOf i).toNat)
    case atStart => exact ⟨0, 0, rfl, Nat.zero_le _, rfl, HLC.out.symm⟩
    case round =>
      obtain ⟨n, q, rfl, hnl, rfl, hcl⟩ := hrel
      have h800 := HN.out
      by_cases hlt : n < ys.length
      · have hlti : (n : Int) < (ys.length : Int) := by omega
        obtain ⟨b8, o8, rfl⟩ := row_some HR8.out (by omega)
        obtain ⟨_, hc8, hI8⟩ := row_cells (f := one8) (k := 1) (fun _ => rfl) HR8.out n hlt
        have k8 := hc8 0 _ (by omega) rfl
        rw [Nat.mul_one, Nat.add_zero] at k8
        have hcat := clash_at (L := L) (i := n) (by omega)
        rw [HLi.out n hlt] at hcat
        obtain ⟨⟨⟨i1, m1, f1⟩, v1⟩, hx1⟩ : ∃ x, ys[n] = x := ⟨_, rfl⟩
        rw [hx1] at k8 hI8 hcat
        have hI1 : IsI A v1 f1 := hI8
        dsimp only at k8 hcat
        have HCA : Hid (LC = match (L.drop (n + 1)).find? (fun z => z.2.2 == f1) with
            | some z => some ((i1, m1), (z.1, z.2.1))
            | none => clashL (L.drop (n + 1))) := hcl.out.trans hcat
        clear hcat hcl hc8 hI8
        have HX1 : Hid (ys[n] = ((i1, m1, f1), v1)) := hx1
        clear hx1
        go_wp2
        go_loopw [13] (fun i wr => ∃ m q : Nat, i = .int .i64 m ∧ n + 1 ≤ m ∧ m ≤ ys.length ∧ wr = A.drewN q ∧ Hid ((L.drop (n + 1)).find? (fun z => z.2.2 == f1) = (L.drop m).find? (fun z => z.2.2 == f1))) (fun i _ => ys.length - (intOf i).toNat)
        case atStart => exact ⟨n + 1, q, by go_num, Nat.le_refl _, by omega, rfl, rfl⟩
        case round =>
          obtain ⟨m, q, rfl, hm1, hml, rfl, hfi⟩ := hrel
          by_cases hltm : m < ys.length
          · have hltmi : (m : Int) < (ys.length : Int) := by omega
            obtain ⟨_, hc8, hI8⟩ := row_cells (f := one8) (k := 1) (fun _ => rfl) HR8.out m hltm
            have k9 := hc8 0 _ (by omega) rfl
            rw [Nat.mul_one, Nat.add_zero] at k9
            have hfat := find_at (L := L) (k := m) (fun z => z.2.2 == f1) (by omega)
            rw [HLi.out m hltm] at hfat
            obtain ⟨⟨⟨i2, m2, f2⟩, v2⟩, hx2⟩ : ∃ x, ys[m] = x := ⟨_, rfl⟩
            rw [hx2] at k9 hI8 hfat
            have hI2 : IsI A v2 f2 := hI8
            dsimp only at k9 hfat
            have HX2 : Hid (ys[m] = ((i2, m2, f2), v2)) := hx2
            have HF : Hid ((L.drop (n + 1)).find? (fun z => z.2.2 == f1) = if (f2 == f1) = true then some (i2, m2, f2) else (L.drop (m + 1)).find? (fun z => z.2.2 == f1)) := hfi.out.trans hfat
            clear hfat hfi hc8 hI8 hx2
            have c25 := Eq.eq_all v1 v2 f1 f2 (A.drewN q) (hI1.below (Nat.le_refl _) (below_drewN' (Below.refl _ _) q)) (hI2.below (Nat.le_refl _) (below_drewN' (Below.refl _ _) q))
            by_cases he : f1 = f2
            · have HV : Hid (LC = some ((i1, m1), (i2, m2))) := by
                show _ = _
                rw [HCA.out, HF.out, he, if_pos (by simp)]
              rw [show (f1 == f2) = true by simpa using he] at c25
              clear he HF HCA
              obtain ⟨b7, o7, rfl⟩ := row_some HR7.out (by omega)
              obtain ⟨hb7, hc7n, _⟩ := row_cells (f := rdE) (k := 2) (fun _ => rfl) HR7.out n hlt
              obtain ⟨_, hc7m, _⟩ := row_cells (f := rdE) (k := 2) (fun _ => rfl) HR7.out m hltm
              rw [HX1.out] at hc7n
              rw [HX2.out] at hc7m
              have r1 := hc7n 0 _ (by omega) rfl
              have r2 := hc7n 1 _ (by omega) rfl
              have r3 := hc7m 0 _ (by omega) rfl
              have r4 := hc7m 1 _ (by omega) rfl
              rw [Nat.add_zero] at r1 r3
              dsimp only at r1 r2 r3 r4
              have hg7 : V.heap.size + 2 ≤ b7 := (own_ge HE.out.r7 (q := b7) rfl).1
              clear hc7n hc7m
              go_wp2_with (go_at_call 25; refine c25.mono ?_; rintro e W ⟨rfl, hw6⟩; have HW : Hid (∃ q6, W = (A.drewN q).drewN q6) := hw6; clear hw6)
              obtain ⟨q6, hW⟩ := HW.out
              have bW : Below A.heap.size A W := by rw [hW]; exact below_drewN' (below_drewN' (Below.refl _ _) q) q6
              have dW : W.heap[V.heap.size]? = some (.deferred (some [])) := by rw [hW]; exact HD.out
              have s7 : W.cell? ⟨w1.heap.size, 0, none⟩ = some (.slice (some ⟨b7, o7, none⟩) ys.length c7) := by rw [hW]; exact x7
              have s1 : W.cell? ⟨b7, o7 + n * 2, none⟩ = some (.int .i64 i1) := by rw [hW]; exact r1
              have s2 : W.cell? ⟨b7, o7 + n * 2 + 1, none⟩ = some (.int .i64 m1) := by rw [hW]; exact r2
              have s3 : W.cell? ⟨b7, o7 + m * 2, none⟩ = some (.int .i64 i2) := by rw [hW]; exact r3
              have s4 : W.cell? ⟨b7, o7 + m * 2 + 1, none⟩ = some (.int .i64 m2) := by rw [hW]; exact r4
              have z1 : W.cell? ⟨w.heap.size + 1, 0, none⟩ = some (.int .i64 0) := by rw [hW]; exact y1
              have z2 : W.cell? ⟨w.heap.size + 1, 1, none⟩ = some (.int .i64 0) := by rw [hW]; exact y2
              have z3 : W.frozen? ⟨w.heap.size + 1, 0, none⟩ = false := by rw [hW]; exact y3
              have z4 : W.frozen? ⟨w.heap.size + 1, 1, none⟩ = false := by rw [hW]; exact y4
              have z5 : W.cell? ⟨w.heap.size + 1 + 1, 0, none⟩ = some (.int .i64 0) := by rw [hW]; exact y5
              have z6 : W.cell? ⟨w.heap.size + 1 + 1, 1, none⟩ = some (.int .i64 0) := by rw [hW]; exact y6
              have z7 : W.frozen? ⟨w.heap.size + 1 + 1, 0, none⟩ = false := by rw [hW]; exact y7
              have z8 : W.frozen? ⟨w.heap.size + 1 + 1, 1, none⟩ = false := by rw [hW]; exact y8
              have n1 : w.heap.size + 1 ≠ b7 := by omega
              have n2 : w.heap.size + 1 + 1 ≠ b7 := by omega
              have n3 : w.heap.size + 1 ≠ w1.heap.size := by omega
              have n4 : w.heap.size + 1 + 1 ≠ w1.heap.size := by omega
              have BWW : Below w.heap.size w W := HB.out.trans (bW.mono HB.out.size)
              clear hW HW y1 y2 y3 y4 y5 y6 y7 y8 r1 r2 r3 r4 x7 x8 k8 k9 hI1 hI2 bW c25
              go_region_held3 (fun W' => W'.cell? ⟨w1.heap.size, 0, none⟩ = some (.slice (some ⟨b7, o7, none⟩) ys.length c7) ∧ W'.cell? ⟨b7, o7 + n * 2, none⟩ = some (.int .i64 i1) ∧ W'.cell? ⟨b7, o7 + n * 2 + 1, none⟩ = some (.int .i64 m1) ∧ W'.cell? ⟨b7, o7 + m * 2, none⟩ = some (.int .i64 i2) ∧ W'.cell? ⟨b7, o7 + m * 2 + 1, none⟩ = some (.int .i64 m2)) (first | exact ⟨s7, s1, s2, s3, s4⟩ | go_keep) (fail)
              all_goals go_wp2
              all_goals (refine FIN _ i1 m1 i2 m2 _ true _ rfl rfl rfl rfl rfl (by go_simp) (by go_simp) (by go_simp) (by go_simp) ?_ (below_set (below_set (below_set (below_set BWW.drew _ _ (by dsimp only; omega)) _ _ (by dsimp only; omega)) _ _ (by dsimp only; omega)) _ _ (by dsimp only; omega)) (by rw [HV.out]; rfl))
              all_goals (show ((((W.setCell _ _).setCell _ _).setCell _ _).setCell _ _).heap[_]? = _)
              all_goals (rw [Below.heap_setCell _ _ _ _ (by dsimp only; omega), Below.heap_setCell _ _ _ _ (by dsimp only; omega), Below.heap_setCell _ _ _ _ (by dsimp only; omega), Below.heap_setCell _ _ _ _ (by dsimp only; omega)])
              all_goals exact dW
            · have he1 : (f1 == f2) = false := by simpa using he
              have he2 : ¬ (f2 == f1) = true := by simpa using fun e => he (e.symm)
              rw [he1] at c25
              have HN2 : Hid ((L.drop (n + 1)).find? (fun z => z.2.2 == f1) = (L.drop (m + 1)).find? (fun z => z.2.2 == f1)) := by
                show _ = _
                rw [HF.out, if_neg he2]
              clear he he1 he2 HF
              go_wp2_with (go_at_call 25; refine c25.mono ?_; rintro e w6 ⟨rfl, hw6⟩; obtain ⟨q6, rfl⟩ := hw6)
              go_roundw
              case rel => exact ⟨m + 1, q + q6, by go_num, by omega, by omega, by simp [World.drewN], HN2⟩
              case measure => simp [intOf]; omega
          · have e : m = ys.length := by omega
            subst e
            have HC2 : Hid (LC = clashL (L.drop (n + 1))) := by
              show _ = _
              rw [HCA.out, hfi.out, List.drop_of_length_le (by omega)]
              rfl
            clear HCA hfi
            go_wp2
            go_roundw
            case rel => exact ⟨n + 1, q, by go_num, by omega, rfl, HC2⟩
            case measure => simp [intOf]; omega
      · have e : n = ys.length := by omega
        subst e
        have HC0 : Hid (LC = none) := by
          show _ = _
          rw [hcl.out, List.drop_of_length_le (by omega)]
          rfl
        have dW : (A.drewN q).heap[V.heap.size]? = some (.deferred (some [])) := HD.out
        have BW := below_drewN' HB.out q
        clear hcl
        go_wp2
        refine FIN _ 0 0 0 0 _ false _ rfl rfl rfl rfl rfl (by go_simp) (by go_simp) (by go_simp) (by go_simp) ?_ (below_set (below_set (below_set (below_set BW _ _ (by dsimp only; omega)) _ _ (by dsimp only; omega)) _ _ (by dsimp only; omega)) _ _ (by dsimp only; omega)) (by rw [HC0.out]; rfl)
        rw [Below.heap_setCell _ _ _ _ (by dsimp only; omega), Below.heap_setCell _ _ _ _ (by dsimp only; omega), Below.heap_setCell _ _ _ _ (by dsimp only; omega), Below.heap_setCell _ _ _ _ (by dsimp only; omega)]
        exact dW
end Go.Proofs.Ytkcbgapakpheiaa.Cn
