/- Rows built, laid, stored, taken whole: the laws for a type of 63 cells. No conditions. -/
import Derived.Test.YtfjocafepigijaaDoorFi
import Derived.Great.BuildSlice
import Derived.OrdersHeld
import Derived.Test.YtfjocafepigijaaDoorRbM
import Derived.Test.YtfjocafepigijaaDoorProg
import Derived.Deep.RegionHeld
import Derived.Test.YtfjocafepigijaaDoorDg
import Derived.Deep.CutRange
namespace Go.Proofs.YtfjocafepigijaaDoor.Su
open Go.RowKit Mv Po Ps Cm

theorem run_build90 (b : Bool) (W : World) : (Instr.build 90 #[(1, .bool b)]).run Tryd.prog W = .ok (.agg (ra (fun _ => 0) b false)) W := run_build W 90 _ _ (by cases b <;> kernel_rfl)
/-- a row built of its flag -/
theorem ex_build90 {o : Oper} {a : Act} {x : Operand} {b : Bool} (ho : o.op = .build 90 #[(1, x)]) (hx : a.eval x = .bool b) (w : World) : (execOp a.eval o).run Tryd.prog w = .ok (.value (.agg (ra (fun _ => 0) b false))) w := by
  unfold execOp
  simp only [ho]
  simp [hx, run_build90]
/-- a row laid alone, for append -/
theorem wp_bs90 {o : Oper} {a : Act} {w : World} {K : Act → World → Prop} {Q : Exit → Act → World → Prop} (x : Operand) (ho : o.op = .buildSlice 91 1 #[(0, x)]) (X : Nat → Int) (f d : Bool) (hx : a.eval x = .agg (ra X f d))
    (h : K (a.put o.dst (.slice (some ⟨w.heap.size, 0, none⟩) 1 1)) (w.alloc (.cells (ra X f d) 90))) : o.wp Tryd.prog a w K Q := by
  obtain ⟨i0, hi, hz0, hz1, hz2⟩ := info_parts inf90
  refine wp_buildSlice 91 90 1 #[(0, x)] ho (ra X f d) i0 _ Tryd.underlying91 hi hz0 (by rw [hz1]; decide) (by rw [hz1]; decide) ?_ h
  have hw := Great.fill_whole (s := 63) (by decide) [.agg (ra X f d)] ((Array.range (1 * i0.size)).map ((Value.agg (ra (fun _ => 0) false false)).cells[· % (Value.agg (ra (fun _ => 0) false false)).cells.size]!)) (fun v hv => by rw [List.mem_singleton.1 hv]; exact ra_size X f d) (by rw [hz1]; simp)
  rw [hz1] at hw ⊢
  simpa [hx, Value.cells] using hw
/-- a row stored into its block -/
theorem wp_st90 {o : Oper} {a : Act} {w : World} {K : Act → World → Prop} {Q : Exit → Act → World → Prop} (x y : Operand) (ho : o.op = .store 90 x y)
    (b : Nat) (X X' : Nat → Int) (f d f' d' : Bool) (hx : a.eval x = .pointer (some ⟨b, 0, none⟩)) (hy : a.eval y = .agg (ra X' f' d')) (hb : Rw9 w b X f d) (h : K (a.put o.dst undef) (w.setRow b (ra X' f' d'))) : o.wp Tryd.prog a w K Q := by
  unfold Oper.wp execOp
  have hs := run_storeVar_row (P := Tryd.prog) w b 90 90 (ra X f d) (ra X' f' d') hb (by rw [ra_size]; exact size90) (by rw [ra_size, ra_size]) (ra_one X' f' d')
  simp only [ho, hx, hy, Instr.storeAt, Instr.sureAddr, Sem.run_bind, Sem.run_pure, Result.andThen, hs]
  exact h
/-- a row taken whole, under what S says -/
theorem take90 {ops : Array Oper} {S : World → Prop} {op : Oper} {a : Act} (hw : Region.wanted op (yielded ops a.tmps) = true) (x : Operand) (ho : op.op = .load 90 x) (b o : Nat) (X : Nat → Int) (f d : Bool) (hx : a.eval x = .pointer (some ⟨b, o, none⟩)) (hS : ∀ w, S w → w.rangeAt b o (rl X f d)) : YieldsIf Tryd.prog ops S op (.agg (ra X f d)) a :=
  yieldsIf_load_mid hw 90 x ho b o hx (rl X f d) _ hS Tryd.underlying90 rfl (by rw [rl_len]; exact size90)
theorem Rw9.laid {w w1 : World} {b : Nat} {X : Nat → Int} {f d : Bool} (h : Rw9 w b X f d) (hb : Below w.heap.size w w1) : Rw9 w1 b X f d := (hb.block _ (lt_at h)).trans h
theorem Rw9.row {w : World} {b : Nat} {X : Nat → Int} {f d : Bool} (h : Rw9 w b X f d) (X' : Nat → Int) (f' d' : Bool) : Rw9 (w.setRow b (ra X' f' d')) b X' f' d' := setRow_heap w b _ _ 90 _ h
theorem Rw9.kept {w w1 : World} {b : Nat} {X : Nat → Int} {f d : Bool} {Y : Nat → Prop} (h : Rw9 w b X f d) (hk : Kp Y w w1) (hY : ¬ Y b) : Rw9 w1 b X f d := (hk.block _ (lt_at h) hY).trans h
theorem new90 (w : World) (X : Nat → Int) (f d : Bool) : Rw9 (w.alloc (.cells (ra X f d) 90)) w.heap.size X f d := heap_alloc_new _ _
theorem cell_63 (w : World) (X : Nat → Int) (f d : Bool) : ∀ j u, (rl X f d)[j]? = some u → (w.alloc (.cells (ra X f d) 90)).cell? ((⟨w.heap.size, 0, none⟩ : Addr).add j) = some u := fun j u hu => by
  have hj : j < 63 := by have := (List.getElem?_eq_some_iff.1 hu).1; rw [rl_len] at this; exact this
  rw [Addr.add_mid, Nat.zero_add, (new90 w X f d).cell hj, ← rl_at hj]
  exact hu
theorem step_bs90 {ops : Array Oper} {o : Oper} {a : Act} {w : World} {K : Act → World → Prop} {Q : Exit → Act → World → Prop} {E : Prop} (hgd : o.guard = none) (x : Operand) (ho : o.op = .buildSlice 91 1 #[(0, x)]) (X : Nat → Int) (f d : Bool) (hx : a.eval x = .agg (ra X f d))
    (h : K (a.put o.dst (.slice (some ⟨w.heap.size, 0, none⟩) 1 1)) (w.alloc (.cells (ra X f d) 90))) : if Region.wanted o (yielded ops a.tmps) = true then Oper.wp Tryd.prog o a w K Q else E := by
  rw [if_pos (by simp [Region.wanted, hgd])]
  exact wp_bs90 x ho X f d hx h
theorem step_st90 {ops : Array Oper} {o : Oper} {a : Act} {w : World} {K : Act → World → Prop} {Q : Exit → Act → World → Prop} {E : Prop} (hgd : o.guard = none) (x y : Operand) (ho : o.op = .store 90 x y)
    (b : Nat) (X X' : Nat → Int) (f d f' d' : Bool) (hx : a.eval x = .pointer (some ⟨b, 0, none⟩)) (hy : a.eval y = .agg (ra X' f' d')) (hb : Rw9 w b X f d) (h : K (a.put o.dst undef) (w.setRow b (ra X' f' d'))) : if Region.wanted o (yielded ops a.tmps) = true then Oper.wp Tryd.prog o a w K Q else E := by
  rw [if_pos (by simp [Region.wanted, hgd])]
  exact wp_st90 x y ho b X X' f d f' d' hx hy hb h
end Go.Proofs.YtfjocafepigijaaDoor.Su
/- newTable: how all lies while a row is made; a symbol more. No conditions. -/
namespace Go.Proofs.YtfjocafepigijaaDoor.Su
open Go.RowKit Mv Po Ps Cm Ra Set Ot Pa

/-- the row that is made, and the sets that were read; c the next symbol, cg the first whose set is still as it was read -/
structure Inw (w wx : World) (p1 mb tp S sb : Nat) (A : AL) (V : Nat → Value) (vs : List Value) (mc : Array Value) (vk vr : Value) (ks : List (Value × List Nat)) (nr : Nat) (X : Nat → Nat → Int) (f : Nat → Bool) (Gm : ByteArray → Option Nat) (b10 bG : Nat) (fb : Bool) (G : Gt) (c cg : Nat) (XL : Nat → Int) : Prop where
  n : Ntw w wx p1 mb tp S sb A V vs mc vk vr ks nr X f Gm
  row : Rw9 wx b10 XL fb false
  gs : ∀ d q, cg ≤ d → G d = some q → IsSet wx bG q.1 S q.2 ∧ q.2.length = (S + 63) / 64
  ap : ∀ q ∈ ks, (∀ b, q.1.ownBlock = some b → b < bG) ∨ ∃ d q', d < c ∧ G d = some q' ∧ q'.1 = q.1
  vr10 : ∀ b, vr.ownBlock = some b → b ≠ b10
  bge : w.heap.size ≤ bG
  b10ge : w.heap.size ≤ b10
section
variable {w wx w1 : World} {p1 mb tp S sb : Nat} {A : AL} {V : Nat → Value} {vs : List Value} {mc : Array Value} {vk vr : Value} {ks : List (Value × List Nat)} {nr : Nat} {X : Nat → Nat → Int} {f : Nat → Bool} {Gm : ByteArray → Option Nat} {b10 bG : Nat} {fb : Bool} {G : Gt} {c cg : Nat} {XL : Nat → Int}
theorem Inw.laid (h : Inw w wx p1 mb tp S sb A V vs mc vk vr ks nr X f Gm b10 bG fb G c cg XL) (hb : Below wx.heap.size wx w1) : Inw w w1 p1 mb tp S sb A V vs mc vk vr ks nr X f Gm b10 bG fb G c cg XL :=
  ⟨h.n.laid hb, h.row.laid hb, fun d q hd hq => ⟨⟨own_kp2 (h.gs d q hd hq).1.1 (kp_below hb (fun _ => False)) (fun _ _ => id), (h.gs d q hd hq).1.2⟩, (h.gs d q hd hq).2⟩, h.ap, h.vr10, h.bge, h.b10ge⟩
/-- a number is written -/
theorem Inw.num (h : Inw w wx p1 mb tp S sb A V vs mc vk vr ks nr X f Gm b10 bG fb G c cg XL) {j : Nat} (hj : j < 61) (x : Int) : Inw w (wx.setCell ⟨b10, j, none⟩ (.int .i64 x)) p1 mb tp S sb A V vs mc vk vr ks nr X f Gm b10 bG fb G c cg (up1 XL j x) := by
  have hk : Kp (fun b => b = b10) wx (wx.setCell ⟨b10, j, none⟩ (.int .i64 x)) := (Kp.refl _ wx).setCell _ _ _ (fun _ => rfl)
  have nt : ∀ {b : Nat} {d : Array Value} {ty : TypeId}, wx.heap[b]? = some (.cells d ty (0, 0)) → ty ≠ 90 → ¬ b = b10 := fun {b d ty} hb hne e => by subst e; exact ty_ne hb h.row hne
  refine ⟨h.n.kept hk (fun e => ?_) (fun b c ty hb ht => nt hb (by rcases ht with h | h | h | h | h <;> subst h <;> decide)) (fun p hp b hb => by obtain ⟨d, hd⟩ := own_ty (h.n.each p hp).1 hb; exact nt hd (by decide)) (fun b hb => h.vr10 b hb) (below_kp h.n.below hk (fun b hb e => by have := h.b10ge; omega)), h.row.set hj x, fun d q hd hq => ⟨⟨own_kp2 (h.gs d q hd hq).1.1 hk (fun b hb => by obtain ⟨d', hd'⟩ := own_ty (h.gs d q hd hq).1.1 hb; exact nt hd' (by decide)), (h.gs d q hd hq).1.2⟩, (h.gs d q hd hq).2⟩, h.ap, h.vr10, h.bge, h.b10ge⟩
  obtain ⟨es, cl, hmb⟩ := h.n.mp.ty
  rw [e, h.row] at hmb
  cases hmb
/-- the next symbol -/
theorem Inw.next (h : Inw w wx p1 mb tp S sb A V vs mc vk vr ks nr X f Gm b10 bG fb G c cg XL) {cg' : Nat} (hg : cg ≤ cg') : Inw w wx p1 mb tp S sb A V vs mc vk vr ks nr X f Gm b10 bG fb G (c + 1) cg' XL :=
  ⟨h.n, h.row, fun d q hd hq => h.gs d q (by omega) hq, fun q hq => (h.ap q hq).imp id (fun ⟨d, q', hd, e⟩ => ⟨d, q', by omega, e⟩), h.vr10, h.bge, h.b10ge⟩
/-- the symbol's set is closed -/
theorem Inw.close {q : Value × List Nat} (h : Inw w wx p1 mb tp S sb A V vs mc vk vr ks nr X f Gm b10 bG fb G c c XL) (hq : G c = some q) (hgap : ∀ d d' q q', d ≠ d' → G d = some q → G d' = some q' → ∀ b, q.1.ownBlock = some b → q'.1.ownBlock ≠ some b) (hk : Kp (fun b => q.1.ownBlock = some b) wx w1) :
    Inw w w1 p1 mb tp S sb A V vs mc vk vr ks nr X f Gm b10 bG fb G c (c + 1) XL ∧ ∀ p ∈ ks, ∀ b, p.1.ownBlock = some b → q.1.ownBlock ≠ some b := by
  have hs := (h.gs c q (Nat.le_refl _) hq).1
  have hap : ∀ p ∈ ks, ∀ b, p.1.ownBlock = some b → q.1.ownBlock ≠ some b := fun p hp b hb e => by
    rcases h.ap p hp with h1 | ⟨d, q', hd, hq', he⟩
    · have h2 := h1 b hb
      have h3 := (hs.1.lt b e).1
      omega
    · exact hgap d c q' q (by omega) hq' hq b (by rw [he]; exact hb) e
  have nt : ∀ {b : Nat} {d : Array Value} {ty : TypeId}, wx.heap[b]? = some (.cells d ty (0, 0)) → ty ≠ 136 → ¬ q.1.ownBlock = some b := fun {b d ty} hb hne e => by
    obtain ⟨d', hd⟩ := own_ty hs.1 e; exact ty_ne hb hd hne
  refine ⟨⟨h.n.turned hs (fun b hb => Nat.le_trans h.bge (hs.1.lt b hb).1) hk hap, h.row.kept hk (nt h.row (by decide)), fun d p hd hp => ?_, h.ap, h.vr10, h.bge, h.b10ge⟩, hap⟩
  have h2 := h.gs d p (by omega) hp
  exact ⟨⟨own_kp2 h2.1.1 hk (fun b hb e => hgap d c p q (by omega) hp hq b hb e), h2.1.2⟩, h2.2⟩
/-- a set more -/
theorem Inw.addSet {vk' : Value} {q : Value × List Nat} {ws' : List Nat} {w2 : World} (h : Inw w wx p1 mb tp S sb A V vs mc vk vr ks nr X f Gm b10 bG fb G c (c + 1) XL) (hq : G c = some q) (hn : Gm (kst ws') = none) (hp : IsSet wx bG q.1 S ws')
    (hm : IsSm w1 mb (ks.length + 1) (fun s' => if s' = kst ws' then some ks.length else Gm s')) (hg : wx.grownBy w1 (some mb))
    (ho : w2.ownsRow w.heap.size 77 1 vk' (ks.length + 1) (ks.map Prod.fst ++ [q.1])) (hg2 : (w1.alloc (.cells #[q.1] 77)).grownBy w2 vk.ownBlock) :
    Inw w w2 p1 mb tp S sb A V vs mc vk' vr (ks ++ [(q.1, ws')]) nr X f (fun s' => if s' = kst ws' then some ks.length else Gm s') b10 bG fb G (c + 1) (c + 1) XL := by
  have hk1 : Kp (fun b => b = mb) wx w1 := (Kp.refl _ wx).grown hg (fun b hb _ => (by injection hb with hb; exact hb.symm))
  obtain ⟨es, cl, hmb⟩ := h.n.mp.ty
  have nm : ∀ {b : Nat} {d : Array Value} {ty : TypeId}, wx.heap[b]? = some (.cells d ty (0, 0)) → b ≠ mb := fun hb e => by subst e; rw [hmb] at hb; cases hb
  have hal := below_al w1 (.cells #[q.1] 77)
  have hk2 : Kp (fun b => vk.ownBlock = some b) w1 w2 := (kp_below hal _).trans ((Kp.refl _ _).grown hg2 (fun b hb _ => hb))
  have hk : Kp (fun b => b = mb ∨ vk.ownBlock = some b) wx w2 := (hk1.mono (fun _ _ e => .inl e)).trans (hk2.mono (fun _ _ e => .inr e))
  have nt : ∀ {b : Nat} {d : Array Value} {ty : TypeId}, wx.heap[b]? = some (.cells d ty (0, 0)) → ty ≠ 77 → ¬ (b = mb ∨ vk.ownBlock = some b) := fun {b d ty} hb hne e => by
    rcases e with e | e
    · exact nm hb e
    · obtain ⟨d', hd⟩ := own_ty h.n.sets e; exact ty_ne hb hd hne
  refine ⟨h.n.addSet (p := (q.1, ws')) hn ⟨own_le hp.1 h.bge, hp.2⟩ hm hg ho hg2, h.row.kept hk (nt h.row (by decide)), fun d p hd hp => ?_, fun p hp => ?_, h.vr10, h.bge, h.b10ge⟩
  · have h2 := h.gs d p hd hp
    exact ⟨⟨own_kp2 h2.1.1 hk (fun b hb => by obtain ⟨d', hd'⟩ := own_ty h2.1.1 hb; exact nt hd' (by decide)), h2.1.2⟩, h2.2⟩
  · rcases List.mem_append.1 hp with hp | hp
    · exact (h.ap p hp).imp id (fun ⟨d, q', hd, e⟩ => ⟨d, q', by omega, e⟩)
    · rw [List.mem_singleton.1 hp]
      exact .inr ⟨c, q, by omega, hq, rfl⟩
end
/-- a row's numbers, one more -/
theorem rowX_old {r : List (Option Nat)} {o : Option Nat} {j : Nat} (h : j ≤ r.length) : rowX (r ++ [o]) j = rowX r j := by
  unfold rowX
  by_cases e : j = 0
  · rw [if_pos e, if_pos e]
  · rw [if_neg e, if_neg e]
    simp only [List.getD_eq_getElem?_getD]
    rw [List.getElem?_append_left (by omega)]
theorem rowX_new {r : List (Option Nat)} {o : Option Nat} : rowX (r ++ [o]) (r.length + 1) = enc o := by
  unfold rowX
  rw [if_neg (by omega), Nat.add_sub_cancel, List.getD_eq_getElem?_getD, List.getElem?_append_right (Nat.le_refl _), Nat.sub_self]
  rfl
/-- the numbers so far, one more -/
theorem num_next {S : Nat} {A : AL} {SL : List (List Bool)} {P : List Bool} {c : Nat} {XL : Nat → Int} {o : Option Nat} (hc : 1 ≤ c) (h : ∀ j, j < c → XL j = rowX (tr S A SL P (c - 1)).2 j) (ho : (tr S A SL P c).2 = (tr S A SL P (c - 1)).2 ++ [o]) : ∀ j, j < c + 1 → up1 XL c (enc o) j = rowX (tr S A SL P c).2 j := by
  intro j hj
  have hl := tr_len S A SL P (c - 1)
  rw [ho]
  unfold up1
  by_cases e : j = c
  · subst e
    rw [if_pos rfl]
    have h2 := rowX_new (r := (tr S A SL P (j - 1)).2) (o := o)
    rw [hl, show j - 1 + 1 = j by omega] at h2
    exact h2.symm
  · rw [if_neg e, rowX_old (by omega)]
    exact h j (by omega)
theorem up1_up1 (XL : Nat → Int) (c : Nat) (x y : Int) : up1 (up1 XL c x) c y = up1 XL c y := by
  funext j
  unfold up1
  by_cases e : j = c
  · rw [if_pos e, if_pos e]
  · rw [if_neg e, if_neg e, if_neg e]
theorem tr_down {S : Nat} {A : AL} {SL : List (List Bool)} {P : List Bool} {c : Nat} (hc : 1 ≤ c) : tr S A SL P c = ts S A P (tr S A SL P (c - 1)) c := by
  have h := tr_up S A SL P (c - 1)
  rw [show c - 1 + 1 = c by omega] at h
  exact h
end Go.Proofs.YtfjocafepigijaaDoor.Su
/- newTable (47): the table of a plain machine's sets, or that there are too many. Conditions: the machine is right, of at most 40 states. -/
namespace Go.Proofs.YtfjocafepigijaaDoor.Su
open Go.RowKit Go.Shelf Mv Po Ps Cm Ra Set Ot Pa Zz

/-- what newTable hands back -/
def NtQ (S : Nat) (A : AL) (F : List (Int × Int)) (w : World) (e : Ending) (w' : World) : Prop :=
  (∃ n p g cap, e = .returned (.tuple #[.pointer (some ⟨p, 0, none⟩), .int .i64 0]) ∧ Done S A n ∧ PT w' w.heap.size p g n cap (Xk S A n) (fk S A F n) (fun _ => false) ∧ w.heap.size ≤ p ∧ Below w.heap.size w w') ∨
  (e = .returned (.tuple #[.pointer none, .int .i64 7]) ∧ Many S A ∧ Below w.heap.size w w')
theorem ag_zero (S : Nat) (hS : 0 < S) : Ag S (put (List.replicate ((S + 63) / 64) 0) 0) (mk S fun v => v = 0) := by
  refine ⟨mk_len _ _, by rw [Su.put_len]; simp, put_bd _ _ (fun x hx => by rw [List.eq_of_mem_replicate hx]; decide), fun v => ?_⟩
  rw [mem_put _ _ _ (by simp; omega), mem_zero, mk_has]
  simp only [Bool.false_or, decide_eq_true_eq]
  exact ⟨fun h => ⟨by omega, h⟩, fun h => h.2⟩
theorem done_len {S : Nat} {A : AL} {k : Nat} {ks : List (Value × List Nat)} (h : Agl S ks (tab S A k).1) (ha : At S A k) : k ≤ ks.length := by rw [h.len]; exact ha.le
theorem sz77' : (Tryd.prog.info? 77).map (·.size) = some 1 := by kernel_rfl
theorem idx147 (G : Gt) (c : Nat) (hc : c < 61) (W : World) : Sem.run Tryd.prog (Instr.index 147 (.agg (ca (gv G))) (.int .i64 (c : Int))) W = .ok (gv G c) W := by
  have h1 := ca_at (gv G) c hc
  have h2 : (c : Int) < 61 := by omega
  have h3 := Tryd.underlying147
  have h4 := sz77'
  unfold Instr.index
  go_simp
/-- a symbol that is not read -/
theorem skip_at {S : Nat} {A : AL} {ws : List Nat} {P : List Bool} {G : Gt} {SL : List (List Bool)} {ks : List (Value × List Nat)} {c : Nat} {XL : Nat → Int} (hA : Ag S ws P) (h : Rp A (Za.ms ws) 0 0 G) (hm : ∀ v, v ∈ Za.ms ws ↔ Set.mem ws v = true) (hn : G c = none) (hal : Agl S ks (tr S A SL P (c - 1)).1) (hnum : ∀ j, j < c → XL j = rowX (tr S A SL P (c - 1)).2 j) :
    Agl S ks (tr S A SL P (c + 1 - 1)).1 ∧ ∀ j, j < c + 1 → up1 XL c (-1) j = rowX (tr S A SL P (c + 1 - 1)).2 j := by
  rw [Nat.add_sub_cancel]
  by_cases hc : c = 0
  · subst hc
    refine ⟨hal, fun j hj => ?_⟩
    obtain rfl : j = 0 := by omega
    simp [up1, rowX]
  · have ht : tr S A SL P c = ((tr S A SL P (c - 1)).1, (tr S A SL P (c - 1)).2 ++ [none]) := by rw [tr_down (by omega), ts_none (rp_void hA h hm hc hn)]
    exact ⟨by rw [ht]; exact hal, num_next (o := none) (by omega) hnum (by rw [ht])⟩
/-- a set that was met -/
theorem old_at {S : Nat} {A : AL} {P : List Bool} {SL : List (List Bool)} {ks : List (Value × List Nat)} {Gm : ByteArray → Option Nat} {ws' : List Nat} {c i : Nat} {XL : Nat → Int} (hv : void (nx S A P c) = false) (hc : c ≠ 0) (hal : Agl S ks (tr S A SL P (c - 1)).1) (hm : Ot.Met ks Gm) (hA : Ag S ws' (nx S A P c)) (hi : Gm (kst ws') = some i) (hnum : ∀ j, j < c → XL j = rowX (tr S A SL P (c - 1)).2 j) :
    Agl S ks (tr S A SL P (c + 1 - 1)).1 ∧ (∀ j, j < c + 1 → up1 (up1 XL c (-1)) c (i : Int) j = rowX (tr S A SL P (c + 1 - 1)).2 j) ∧ i < ks.length := by
  rw [Nat.add_sub_cancel, up1_up1]
  obtain ⟨h1, h2⟩ := find_some hal hm hA hi
  have ht : tr S A SL P c = ((tr S A SL P (c - 1)).1, (tr S A SL P (c - 1)).2 ++ [some i]) := by
    rw [tr_down (by omega), ts_some hv, h1, if_neg (by omega)]
  exact ⟨by rw [ht]; exact hal, num_next (o := some i) (by omega) hnum (by rw [ht]), by rw [hal.len]; exact h2⟩
/-- a set that is new -/
theorem new_at {S : Nat} {A : AL} {P : List Bool} {SL : List (List Bool)} {ks : List (Value × List Nat)} {Gm : ByteArray → Option Nat} {v : Value} {ws' : List Nat} {c : Nat} {XL : Nat → Int} (hv : void (nx S A P c) = false) (hc : c ≠ 0) (hal : Agl S ks (tr S A SL P (c - 1)).1) (hm : Ot.Met ks Gm) (hA : Ag S ws' (nx S A P c)) (hi : Gm (kst ws') = none) (hnum : ∀ j, j < c → XL j = rowX (tr S A SL P (c - 1)).2 j) :
    Agl S (ks ++ [(v, ws')]) (tr S A SL P (c + 1 - 1)).1 ∧ (∀ j, j < c + 1 → up1 (up1 XL c (-1)) c (ks.length : Int) j = rowX (tr S A SL P (c + 1 - 1)).2 j) := by
  rw [Nat.add_sub_cancel, up1_up1]
  have h1 := find_none hal hm hA hi
  have ht : tr S A SL P c = ((tr S A SL P (c - 1)).1 ++ [nx S A P c], (tr S A SL P (c - 1)).2 ++ [some ks.length]) := by
    rw [tr_down (by omega), ts_some hv, h1, if_pos rfl, hal.len]
  exact ⟨by rw [ht]; exact hal.add hA, num_next (o := some ks.length) (by omega) hnum (by rw [ht])⟩
/-- too many -/
theorem many_of {S : Nat} {A : AL} {k c : Nat} {ks : List (Value × List Nat)} {v : Value} {ws' : List Nat} (hat : At S A k) (hk : k < (tab S A k).1.length) (hc : c ≤ 60) (h : Agl S (ks ++ [(v, ws')]) (tr S A (tab S A k).1 ((tab S A k).1.getD k []) c).1) (hl : ks.length = 500) : Many S A := by
  refine ⟨k + 1, hat.up hk, ?_⟩
  have h1 := h.len
  rw [List.length_append, hl] at h1
  have h2 := (tr_pre S A (tab S A k).1 ((tab S A k).1.getD k []) c 60 hc).length_le
  rw [tab_up1]
  have h3 : [(v, ws')].length = 1 := rfl
  omega
set_option maxHeartbeats 8000000 in
set_option maxRecDepth 100000 in
theorem newTable_any (S : Nat) (A : AL) (F : List (Int × Int)) (aa af : Option Addr) (ca cf : Nat) (w : World) (hG : Gd S A) (hS40 : S ≤ 400) (hA : Mv.Row w (.slice aa A.length ca) 5 A.length (acs A)) (hF : Mv.Row w (.slice af F.length cf) 2 F.length (fcs F)) (hf : ∀ k (h : k < F.length), finB (S : Int) F[k] = true) (hTab : TabAt 0 Lib.deBruijn64tab w) (h00 : 0 < w.heap.size) :
    Calls Tryd.prog 47 #[.agg #[.int .i64 (S : Int), .slice aa A.length ca, .slice af F.length cf]] w (NtQ S A F w) := by
  obtain ⟨i77, hi77, hy0, hy1, hy2⟩ := info_parts inf77
  obtain ⟨i90, hi90, hz0, hz1, hz2⟩ := info_parts inf90
  have hSpos := hG.pos
  have hmm := @run_makeMap Tryd.prog
  have HG : Hid (Gd S A ∧ Mv.Row w (.slice af F.length cf) 2 F.length (fcs F) ∧ (∀ k (h : k < F.length), finB (S : Int) F[k] = true) ∧ TabAt 0 Lib.deBruijn64tab w ∧ 0 < w.heap.size) := ⟨hG, hF, hf, hTab, h00⟩
  obtain ⟨W1, hW1⟩ : ∃ W1, w.alloc (.cells #[.int .i64 (S : Int), .slice aa A.length ca, .slice af F.length cf] 25) = W1 := ⟨_, rfl⟩
  have B1 : Below w.heap.size w W1 := by rw [← hW1]; exact below_al _ _
  have x1 : W1.heap[w.heap.size]? = some (.cells #[.int .i64 (S : Int), .slice aa A.length ca, .slice af F.length cf] 25 (0, 0)) := by rw [← hW1]; exact heap_alloc_new _ _
  have b0 := cell_of_row _ _ 0 _ _ _ x1
  have b1 := cell_of_row _ _ 1 _ _ _ x1
  have b2 := cell_of_row _ _ 2 _ _ _ x1
  have K39 := Ra.leaving_big S A (.slice aa A.length ca) (.slice af F.length cf) W1 (hA.below B1) (fun a ha => by obtain ⟨k, hk, rfl⟩ := List.getElem_of_mem ha; obtain ⟨f', t', i', o', x', hq, h1, _⟩ := hG.nat hk; exact ⟨f', by rw [hq], h1⟩) (Nat.le_trans hS40 (by decide)) hG.len
  have HX1 : Hid (W1.heap[w.heap.size]? = some (.cells #[.int .i64 (S : Int), .slice aa A.length ca, .slice af F.length cf] 25 (0, 0)) ∧ Below w.heap.size w W1) := ⟨x1, B1⟩
  clear hA hF hf hG hTab h00 x1 B1
  go_enter Tryd.func47, Tryd.ntmps47
  go_upto_region 2 with (go_at_call 39; (with_reducible refine K39.mono ?_); clear K39; rintro e w2 ⟨sb, V, vs, rfl, hrt⟩; have HRT : Hid (Rt W1 w2 sb S (rws (fun a => a) A) V vs) := hrt; clear hrt)
  clear b0 b1 b2 hW1
  have HX2 : Hid (w2.heap[w.heap.size]? = some (.cells #[.int .i64 (S : Int), .slice aa A.length ca, .slice af F.length cf] 25 (0, 0)) ∧ Below w.heap.size w w2 ∧ Rr w2 w.heap.size sb S A V vs) := ⟨(HRT.out.below.block _ (lt_at HX1.out.1)).trans HX1.out.1, HX1.out.2.trans (HRT.out.below.mono HX1.out.2.size), ⟨own_le HRT.out.heads HX1.out.2.size, HRT.out.head, fun k => own_le (HRT.out.rows k) HX1.out.2.size⟩⟩
  have c0 := cell_of_row _ _ 0 _ _ _ HX2.out.1
  have K59 := new_zero S w2 (by omega)
  obtain ⟨ln, hln⟩ : ∃ ln, (S + 63) / 64 = ln := ⟨_, rfl⟩
  have HLN : Hid ((S + 63) / 64 = ln ∧ 0 < ln ∧ ln ≤ 7) := ⟨hln, by omega, by omega⟩
  rw [hln] at K59
  clear hln HX1 HRT
  go_upto_region 3 with (go_at_call 59; (with_reducible refine K59.mono ?_); clear K59; rintro e w3 ⟨v0, rfl, hs3, hb3⟩; obtain ⟨vg, vc, hv0, _, _⟩ := own_some hs3.1 (by rw [List.length_replicate]; exact HLN.out.2.1); rw [List.length_replicate] at hv0; subst hv0; have HS3 : Hid (IsSet w3 w2.heap.size (.slice (some ⟨vg, 0, none⟩) ln vc) S (List.replicate ln 0) ∧ Below w2.heap.size w2 w3) := ⟨hs3, hb3⟩; clear hs3 hb3)
  clear c0
  have K60 : Calls Tryd.prog 60 #[.slice (some ⟨vg, 0, none⟩) ln vc, .int .i64 0] w3 fun e w' => e = .returned (.bool (!mem (List.replicate ln 0) 0)) ∧ IsSet w' w2.heap.size (.slice (some ⟨vg, 0, none⟩) ln vc) S (put (List.replicate ln 0) 0) ∧ w3.grownBy w' (Value.slice (some ⟨vg, 0, none⟩) ln vc).ownBlock := Set.add_any w2.heap.size (.slice (some ⟨vg, 0, none⟩) ln vc) S 0 (List.replicate ln 0) w3 HS3.out.1 hSpos (by omega)
  go_upto_region 4 with (go_at_call 60; (with_reducible refine K60.mono ?_); clear K60; rintro e w4 ⟨rfl, hs4, hg4⟩; have HS4 : Hid (IsSet w4 w2.heap.size (.slice (some ⟨vg, 0, none⟩) ln vc) S (put (List.replicate ln 0) 0) ∧ Below w2.heap.size w2 w4) := ⟨hs4, HS3.out.2.grown hg4 HS3.out.2.size (fun b hb => (HS3.out.1.1.lt b hb).1)⟩; clear hs4 hg4)
  have HB4 : Hid (Below w.heap.size w w4) := HX2.out.2.1.trans (HS4.out.2.mono HX2.out.2.1.size)
  have HAG4 : Hid (Ag S (put (List.replicate ln 0) 0) (mk S fun v => v = 0)) := by have h := ag_zero S hSpos; rw [HLN.out.1] at h; exact h
  have K74 := closeSet_any S w2.heap.size sb w.heap.size A V vs (.slice (some ⟨vg, 0, none⟩) ln vc) (put (List.replicate ln 0) 0) (mk S fun v => v = 0) w4 (HX2.out.2.2.kept (kp_below HS4.out.2 (fun _ => False)) (fun _ _ _ _ _ => id)) HS4.out.1 HAG4.out HG.out.1 (Tz.tab_below HG.out.2.2.2.1 HG.out.2.2.2.2 HB4.out) (Nat.lt_of_lt_of_le HG.out.2.2.2.2 HB4.out.size)
  go_upto_region 5 with (go_at_call 74; (with_reducible refine K74.mono ?_); clear K74; rintro e w5 ⟨rfl, ws1, hs5, ha5, hk5⟩; have HS5 : Hid (IsSet w5 w2.heap.size (.slice (some ⟨vg, 0, none⟩) ln vc) S ws1 ∧ Ag S ws1 (first S A) ∧ Below w2.heap.size w2 w5) := ⟨hs5, ha5, below_kp HS4.out.2 hk5 (fun b hb e => by have := (HS4.out.1.1.lt b e).1; omega)⟩; clear hs5 ha5 hk5)
  clear HS3 HS4 HB4 HAG4
  go_upto_region 6 with fail
  have HO6 : Hid ((w5.alloc (.cells #[.slice (some ⟨vg, 0, none⟩) ln vc] 77)).ownsRow w.heap.size 77 1 (.slice (some ⟨w5.heap.size, 0, none⟩) 1 1) 1 [.slice (some ⟨vg, 0, none⟩) ln vc] ∧ Below w5.heap.size w5 (w5.alloc (.cells #[.slice (some ⟨vg, 0, none⟩) ln vc] 77))) := ⟨own_nil_new w5 (.slice (some ⟨vg, 0, none⟩) ln vc) w.heap.size 77 (Nat.le_trans HX2.out.2.1.size HS5.out.2.2.size), below_al _ _⟩
  have HZ6 : Hid (w.heap.size ≤ w5.heap.size ∧ w5.heap.size ≤ (w5.alloc (.cells #[.slice (some ⟨vg, 0, none⟩) ln vc] 77)).heap.size) := ⟨Nat.le_trans HX2.out.2.1.size HS5.out.2.2.size, HO6.out.2.size⟩
  have HI6 : Hid (IsSet (w5.alloc (.cells #[.slice (some ⟨vg, 0, none⟩) ln vc] 77)) w2.heap.size (.slice (some ⟨vg, 0, none⟩) ln vc) S ws1) := ⟨own_kp2 HS5.out.1.1 (kp_below HO6.out.2 (fun _ => False)) (fun _ _ => id), HS5.out.1.2⟩
  generalize w5.alloc (.cells #[.slice (some ⟨vg, 0, none⟩) ln vc] 77) = W6 at *
  have hb7 := below_al W6 (.map #[] 0)
  have HB7 : Hid (Below W6.heap.size W6 (W6.alloc (.map #[] 0)) ∧ IsSm (W6.alloc (.map #[] 0)) W6.heap.size 0 (fun _ => none)) := ⟨hb7, sm_made W6⟩
  have K75 := key_any w2.heap.size S (.slice (some ⟨vg, 0, none⟩) ln vc) ws1 (W6.alloc (.map #[] 0)) ⟨own_kp2 HI6.out.1 (kp_below hb7 (fun _ => False)) (fun _ _ => id), HI6.out.2⟩ (by rw [HS5.out.2.1.wl, HLN.out.1]; have := HLN.out.2.2; omega) (by rw [HS5.out.2.1.wl, HLN.out.1]; exact HLN.out.2.1)
  obtain ⟨sk, hsk⟩ : ∃ sk, kst ws1 = sk := ⟨_, rfl⟩
  have HSK : Hid (kst ws1 = sk ∧ sk.size ≤ maxLen) := ⟨hsk, by rw [← hsk, kst_size, HS5.out.2.1.wl, HLN.out.1]; have := HLN.out.2.2; unfold maxLen; omega⟩
  rw [show strOfNums ((kb ws1).map fun (x : Nat) => (x : Int)) = sk from hsk] at K75
  clear hb7 hsk
  go_upto_region 7 with (go_at_call 75; (with_reducible refine K75.mono ?_); clear K75; rintro e w8 ⟨rfl, hb8⟩; obtain ⟨w9, hr9, hsm9, hg9⟩ := (HB7.out.2.kept (hb8.block _ HB7.out.2.lt)).store (c := 0) (by unfold maxLen; omega) (s := sk) HSK.out.2; have HR9 : Hid (IsSm w9 W6.heap.size 1 (fun s' => if s' = sk then some 0 else none) ∧ Below W6.heap.size W6 w9) := ⟨hsm9, (HB7.out.1.trans (hb8.mono HB7.out.1.size)).grown hg9 (HB7.out.1.trans (hb8.mono HB7.out.1.size)).size (fun b hb => (by injection hb with hb; omega))⟩; have hr0 : (Instr.mapUpdate 145 (.map (some W6.heap.size)) (.string sk) (.int .i64 0)).run Tryd.prog w8 = .ok () w9 := hr9; clear hb8 hr9 hsm9 hg9)
  clear hr0 HB7 hmm
  go_upto_region 8 with fail
  have HNT : Hid (Ntw w (w9.alloc (.cells #[.slice none 0 0] 93)) w.heap.size W6.heap.size w9.heap.size S sb A V vs #[.int .i64 (S : Int), .slice aa A.length ca, .slice af F.length cf] (.slice (some ⟨w5.heap.size, 0, none⟩) 1 1) (.slice none 0 0) [(.slice (some ⟨vg, 0, none⟩) ln vc, ws1)] 0 (Xk S A 0) (fk S A F 0) (fun s' => if s' = sk then some 0 else none)) := by
    have hb10 := below_al w9 (.cells #[.slice none 0 0] 93)
    have h6 := HR9.out.2.trans (hb10.mono HR9.out.2.size)
    have h5 := HO6.out.2.trans (h6.mono HO6.out.2.size)
    have h2 := HS5.out.2.2.trans (h5.mono HS5.out.2.2.size)
    have hw := HX2.out.2.1.trans (h2.mono HX2.out.2.1.size)
    refine ⟨(h2.block _ (lt_at HX2.out.1)).trans HX2.out.1, HX2.out.2.2.kept (kp_below h2 (fun _ => False)) (fun _ _ _ _ _ => id), own_kp2 HO6.out.1 (kp_below h6 (fun _ => False)) (fun _ _ => id), fun p hp => ?_, HR9.out.1.kept (hb10.block _ HR9.out.1.lt), ?_, heap_alloc_new _ _, World.ownsRow_nil _ _ _ _, Nat.le_trans HZ6.out.1 (Nat.le_trans HZ6.out.2 HR9.out.2.size), Nat.le_trans HZ6.out.1 HZ6.out.2, hw⟩
    · rw [List.mem_singleton.1 hp]
      exact ⟨own_le (own_kp2 HI6.out.1 (kp_below h6 (fun _ => False)) (fun _ _ => id)) HX2.out.2.1.size, HI6.out.2⟩
    · have h := Ot.Met.nil.add (p := ((.slice (some ⟨vg, 0, none⟩) ln vc : Value), ws1)) rfl
      rw [HSK.out.1] at h
      exact h
  have HAL0 : Hid (Agl S [((.slice (some ⟨vg, 0, none⟩) ln vc : Value), ws1)] (tab S A 0).1) := by
    refine ⟨rfl, fun i p b hp hb => ?_⟩
    cases i with
    | zero => simp [tab] at hp hb; rw [← hp, ← hb]; exact HS5.out.2.1
    | succ i => simp at hp
  generalize w9.alloc (.cells #[.slice none 0 0] 93) = W10 at *
  obtain ⟨tp, htp⟩ : ∃ p, w9.heap.size = p := ⟨_, rfl⟩
  obtain ⟨mb, hmb⟩ : ∃ p, W6.heap.size = p := ⟨_, rfl⟩
  rw [htp, hmb] at HNT
  rw [htp, hmb]
  clear htp hmb HO6 HZ6 HI6 HR9 HX2 HS5
  obtain ⟨v1, hv1⟩ : ∃ v, Value.slice (some ⟨w5.heap.size, 0, none⟩) 1 1 = v := ⟨_, rfl⟩
  rw [hv1] at HNT
  rw [hv1]
  clear hv1
  go_upto_region 9 with fail
  go_loopw [6, 9] (fun a i wr => ∃ (k : Nat) (vk vr : Value) (ks : List (Value × List Nat)) (Gm : ByteArray → Option Nat), a = vk ∧ i = .int .i64 (k : Int) ∧ Ntw w wr w.heap.size mb tp S sb A V vs #[.int .i64 (S : Int), .slice aa A.length ca, .slice af F.length cf] vk vr ks k (Xk S A k) (fk S A F k) Gm ∧ Agl S ks (tab S A k).1 ∧ At S A k ∧ ks.length ≤ 500) (fun _ i _ => 600 - (intOf i).toNat)
  case atStart => exact ⟨0, _, _, _, _, rfl, rfl, HNT.out, HAL0.out, fun i hi => absurd hi (Nat.not_lt_zero i), by simp⟩
  case round =>
    clear HNT HAL0 HSK
    obtain ⟨k, vk, vr, ks, Gm, rfl, rfl, hnt, hal, hat, hkl⟩ := hrel
    obtain ⟨ak, ck, rfl⟩ := oslice hnt.sets
    obtain ⟨m, hm⟩ : ∃ m, ks.length = m := ⟨_, rfl⟩
    have HM : Hid (ks.length = m) := hm
    have hkm : k ≤ m := by rw [← hm]; exact done_len hal hat
    have HNT : Hid (Ntw w wr w.heap.size mb tp S sb A V vs #[.int .i64 (S : Int), .slice aa A.length ca, .slice af F.length cf] (.slice ak m ck) vr ks k (Xk S A k) (fk S A F k) Gm) := by have h := hnt; rw [hm] at h; exact h
    have HAL : Hid (Agl S ks (tab S A k).1 ∧ At S A k) := ⟨hal, hat⟩
    rw [hm] at hkl
    rw [hm]
    clear hnt hal hat hm
    by_cases hlt : k < m
    · obtain ⟨p, hp⟩ : ∃ p, ks[k]? = some p := ⟨_, List.getElem?_eq_getElem (by rw [HM.out]; exact hlt)⟩
      obtain ⟨P, hP⟩ : ∃ P, (tab S A k).1.getD k [] = P := ⟨_, rfl⟩
      obtain ⟨SL, hSL⟩ : ∃ SL, (tab S A k).1 = SL := ⟨_, rfl⟩
      have HPP : Hid (Ag S p.2 P ∧ (tab S A k).1.getD k [] = P ∧ (tab S A k).1 = SL) := ⟨by rw [← hP]; exact HAL.out.1.get hp, hP, hSL⟩
      have hps := HNT.out.each p (List.mem_of_getElem? hp)
      obtain ⟨pg, pc, hpe, _, _⟩ := own_some hps.1 (by rw [HPP.out.1.wl, HLN.out.1]; exact HLN.out.2.1)
      rw [HPP.out.1.wl, HLN.out.1] at hpe
      have hse := HNT.out.sets
      rw [HM.out] at hse
      obtain ⟨kg, kc, hke, _, hkg⟩ := own_some hse (by omega)
      rw [Value.slice.injEq] at hke
      obtain ⟨rfl, _, rfl⟩ := hke
      have d0 := hse.cellAt k (by omega)
      rw [show (ks.map Prod.fst)[k]? = some p.1 by rw [List.getElem?_map, hp]; rfl, hpe] at d0
      have HPE : Hid (p.1 = .slice (some ⟨pg, 0, none⟩) ln pc ∧ IsSet wr w.heap.size p.1 S p.2) := ⟨hpe, hps⟩
      obtain ⟨fb, hfb⟩ : ∃ b, fi F P = b := ⟨_, rfl⟩
      have HFB : Hid (fi F P = fb) := hfb
      have x1 := HNT.out.box
      have HD0 : Hid (wr.cell? ⟨kg, k, none⟩ = some (.slice (some ⟨pg, 0, none⟩) ln pc) ∧ kg < wr.heap.size) := ⟨d0, hkg⟩
      clear hp hP hSL hps hpe hse hfb d0 hkg
      go_upto_region 11 with fail
      go_cut [10] from 40 to 46 (fun s wx => ∃ b10, s = .pointer (some ⟨b10, 0, none⟩) ∧ Rw9 wx b10 (fun _ => 0) fb false ∧ Below wr.heap.size wr wx ∧ wr.heap.size ≤ b10)
      case first =>
        have hz := z90
        have HCE : Hid _ := fun (W : World) (hSw : W.heap[w.heap.size]? = some (.cells #[.int .i64 (S : Int), .slice aa A.length ca, .slice af F.length cf] 25 (0, 0)) ∧ W.cell? ⟨kg, k, none⟩ = some (.slice (some ⟨pg, 0, none⟩) ln pc)) => (And.intro (cell_of_row _ _ 0 _ _ _ hSw.1) (And.intro (cell_of_row _ _ 1 _ _ _ hSw.1) (And.intro (cell_of_row _ _ 2 _ _ _ hSw.1) (hSw.2))))
        refine wp_region_held_drew (S := fun W => W.heap[w.heap.size]? = some (.cells #[.int .i64 (S : Int), .slice aa A.length ca, .slice af F.length cf] 25 (0, 0)) ∧ W.cell? ⟨kg, k, none⟩ = some (.slice (some ⟨pg, 0, none⟩) ln pc)) (by kernel_rfl) (by exact ⟨x1, HD0.out.1⟩) (fun hHeld => ?_)
        have hS0 := hHeld
        have HB0 : Hid (Below wr.heap.size wr wr.drew) := (Below.refl _ _).drew
        have HNF : Hid (∀ W, Below wr.heap.size wr W → Mv.Row W (.slice af F.length cf) 2 F.length (fcs F)) := fun W hW => HG.out.2.1.below (HNT.out.below.trans (hW.mono HNT.out.below.size))
        have HNS : Hid (∀ W, Below wr.heap.size wr W → IsSet W w.heap.size (.slice (some ⟨pg, 0, none⟩) ln pc) S p.2) := fun W hW => by rw [← HPE.out.1]; exact ⟨own_kp2 HPE.out.2.1 (kp_below hW (fun _ => False)) (fun _ _ => id), HPE.out.2.2⟩
        clear x1
        generalize hV0 : wr.drew = V0 at *
        clear hV0
        refine wpAnyH_take (i := 0) (oi := { dst := some 40, op := Op.load 25 (Operand.tmp 1), type := 25, pos := "sure.go:46", after := #[], guard := none }) (v := ?_) rfl (by kernel_rfl) (by kernel_rfl) (by kernel_rfl) (fun _ _ _ h => h) (Or.inl ⟨by rfl, ?_⟩) (by assumption) ?_
        case refine_2 => intro w hSw; (try dsimp only at hSw); obtain ⟨z0, z1, z2, zk⟩ := HCE.out _ hSw; go_simp; (try with_reducible rfl)
        simp only [Act.put, List.setIfInBounds_toArray, List.set_cons_zero, List.set_cons_succ]
        refine wpAnyH_take (i := 1) (oi := { dst := some 41, op := Op.move (Operand.tmp 6), type := 120, pos := "sure.go:46", after := #[], guard := none }) (v := ?_) rfl (by kernel_rfl) (by kernel_rfl) (by kernel_rfl) (fun _ _ _ h => h) (Or.inl ⟨by rfl, ?_⟩) (by assumption) ?_
        case refine_2 => intro w hSw; (try dsimp only at hSw); obtain ⟨z0, z1, z2, zk⟩ := HCE.out _ hSw; go_simp; (try with_reducible rfl)
        simp only [Act.put, List.setIfInBounds_toArray, List.set_cons_zero, List.set_cons_succ]
        refine wpAnyH_take (i := 2) (oi := { dst := some 42, op := Op.move (Operand.tmp 9), type := 3, pos := "sure.go:46", after := #[], guard := none }) (v := ?_) rfl (by kernel_rfl) (by kernel_rfl) (by kernel_rfl) (fun _ _ _ h => h) (Or.inl ⟨by rfl, ?_⟩) (by assumption) ?_
        case refine_2 => intro w hSw; (try dsimp only at hSw); obtain ⟨z0, z1, z2, zk⟩ := HCE.out _ hSw; go_simp; (try with_reducible rfl)
        simp only [Act.put, List.setIfInBounds_toArray, List.set_cons_zero, List.set_cons_succ]
        refine wpAnyH_take (i := 3) (oi := { dst := some 43, op := Op.indexAddr 120 (Operand.tmp 41) (Operand.tmp 42), type := 0, pos := "sure.go:46", after := #[{ on := 1, ground := Ground.data }, { on := 2, ground := Ground.data }], guard := none }) (v := ?_) rfl (by kernel_rfl) (by kernel_rfl) (by kernel_rfl) (fun _ _ _ h => h) (Or.inl ⟨by rfl, ?_⟩) (by assumption) ?_
        case refine_2 => intro w hSw; (try dsimp only at hSw); obtain ⟨z0, z1, z2, zk⟩ := HCE.out _ hSw; go_simp; (try with_reducible rfl)
        simp only [Act.put, List.setIfInBounds_toArray, List.set_cons_zero, List.set_cons_succ]
        refine wpAnyH_take (i := 4) (oi := { dst := some 44, op := Op.load 77 (Operand.tmp 43), type := 77, pos := "sure.go:46", after := #[{ on := 3, ground := Ground.data }], guard := none }) (v := ?_) rfl (by kernel_rfl) (by kernel_rfl) (by kernel_rfl) (fun _ _ _ h => h) (Or.inl ⟨by rfl, ?_⟩) (by assumption) ?_
        case refine_2 => intro w hSw; (try dsimp only at hSw); obtain ⟨z0, z1, z2, zk⟩ := HCE.out _ hSw; go_simp; (try with_reducible rfl)
        simp only [Act.put, List.setIfInBounds_toArray, List.set_cons_zero, List.set_cons_succ]
        refine wpAnyH_ready (rs := [5, 7]) (by kernel_rfl) (by simp) ?_
        refine (AllReadyH.cons (o := { dst := some 45, op := Op.call { callee := Callee.value (Operand.func 76), args := #[Operand.tmp 40, Operand.tmp 44], argTypes := #[25, 77] }, type := 4, pos := "sure.go:46", after := #[{ on := 0, ground := Ground.data }, { on := 4, ground := Ground.data }], guard := none }) rfl (fun K hK => ?_) (AllReadyH.cons (o := { dst := some 10, op := Op.alloc 90, type := 0, pos := "sure.go:46", after := #[], guard := none }) rfl (fun K hK => ?_) AllReadyH.nil))
        · skip
          have KE := endsIn_any S w.heap.size F (.slice aa A.length ca) (.slice af F.length cf) af cf (.slice (some ⟨pg, 0, none⟩) ln pc) p.2 P V0 rfl (HNF.out _ HB0.out) HG.out.2.2.1 (HNS.out _ HB0.out) HPP.out.1 hSpos (by omega)
          rw [HFB.out] at KE
          go_simp
          (with_reducible refine KE.mono ?_)
          clear KE
          rintro e1 VE ⟨rfl, hbE⟩
          dsimp only
          have HBE : Hid (Below wr.heap.size wr VE) := (HB0.out).trans (hbE.mono (HB0.out).size)
          have hS1 := And.intro ((hbE.block _ (lt_at hS0.1)).trans hS0.1) ((hbE.cell (World.block_lt_of_cell? _ _ hS0.2)).trans hS0.2)
          clear hbE
          refine hK.out _ _ ?_ (fun hHeld => ?_)
          · first | exact hS3 | exact hS2 | exact hS1
          clear hK K
          try simp only [Act.put, List.setIfInBounds_toArray, List.set_cons_zero, List.set_cons_succ]
          refine wpAnyH_take (i := 6) (oi := { dst := some 46, op := Op.build 90 #[(1, Operand.tmp 45)], type := 90, pos := "sure.go:46", after := #[{ on := 5, ground := Ground.data }], guard := none }) (v := ?_) rfl (by kernel_rfl) (by kernel_rfl) (by kernel_rfl) (fun _ _ _ h => h) (Or.inl ⟨by rfl, ?_⟩) (by assumption) ?_
          case refine_2 => intro w _; refine ex_build90 (x := .tmp 45) (b := fb) ?_ ?_ w; rfl; rfl
          simp only [Act.put, List.setIfInBounds_toArray, List.set_cons_zero, List.set_cons_succ]
          refine wpAnyH_ready (rs := [7]) (by kernel_rfl) (by simp) ?_
          refine (AllReadyH.cons (o := { dst := some 10, op := Op.alloc 90, type := 0, pos := "sure.go:46", after := #[], guard := none }) rfl (fun K hK => ?_) AllReadyH.nil)
          go_simp
          have HBA : Hid (Below wr.heap.size wr (VE.alloc (.cells (ra (fun _ => 0) false false) 90))) := (HBE.out).alloc (HBE.out).size _
          have HRA : Hid (Rw9 (VE.alloc (.cells (ra (fun _ => 0) false false) 90)) VE.heap.size (fun _ => 0) false false) := new90 _ _ _ _
          have hbA := below_al VE (.cells (ra (fun _ => 0) false false) 90)
          have hS2 := And.intro ((hbA.block _ (lt_at hS1.1)).trans hS1.1) ((hbA.cell (World.block_lt_of_cell? _ _ hS1.2)).trans hS1.2)
          clear hbA
          refine hK.out _ _ ?_ (fun hHeld => ?_)
          · first | exact hS3 | exact hS2 | exact hS1
          clear hK K
          try simp only [Act.put, List.setIfInBounds_toArray, List.set_cons_zero, List.set_cons_succ]
          refine wpAnyH_ready (rs := [8]) (by kernel_rfl) (by simp) ?_
          refine (AllReadyH.cons (o := { dst := none, op := Op.store 90 (Operand.tmp 10) (Operand.tmp 46), type := 0, pos := "sure.go:46", after := #[{ on := 7, ground := Ground.data }, { on := 6, ground := Ground.data }, { on := 5, ground := Ground.chain }, { on := 0, ground := Ground.phase }, { on := 1, ground := Ground.phase }, { on := 2, ground := Ground.phase }, { on := 3, ground := Ground.phase }, { on := 4, ground := Ground.phase }, { on := 5, ground := Ground.phase }, { on := 6, ground := Ground.phase }, { on := 7, ground := Ground.phase }], guard := none }) rfl (fun K hK => ?_) AllReadyH.nil)
          refine step_st90 rfl (.tmp 10) (.tmp 46) rfl (VE.heap.size) (fun _ => 0) (fun _ => 0) false false fb false rfl rfl HRA.out ?_
          have HRZ : Hid (Rw9 ((VE.alloc (.cells (ra (fun _ => 0) false false) 90)).setRow (VE.heap.size) (ra (fun _ => 0) fb false)) (VE.heap.size) (fun _ => 0) fb false ∧ Below wr.heap.size wr ((VE.alloc (.cells (ra (fun _ => 0) false false) 90)).setRow (VE.heap.size) (ra (fun _ => 0) fb false)) ∧ wr.heap.size ≤ VE.heap.size) := ⟨HRA.out.row _ _ _, below_kp HBA.out (kp_row _ _ _) (fun b hb e => by have e2 : b = _ := e; have h9 : wr.heap.size ≤ _ := (HBE.out.size); omega), HBE.out.size⟩
          have hkz : Kp (fun b => b = VE.heap.size) (VE.alloc (.cells (ra (fun _ => 0) false false) 90)) ((VE.alloc (.cells (ra (fun _ => 0) false false) 90)).setRow (VE.heap.size) (ra (fun _ => 0) fb false)) := kp_row _ _ _
          have hS3 := And.intro ((hkz.block _ (lt_at hS2.1) (fun e => by have h9 := hS2.1; rw [e] at h9; exact ty_ne h9 HRA.out (by decide))).trans hS2.1) ((hkz.cell (World.block_lt_of_cell? _ _ hS2.2) (fun e => by have e2 : kg = _ := e; have h9 : wr.heap.size ≤ _ := (HBE.out.size); have := HD0.out.2; omega)).trans hS2.2)
          dsimp only [Act.put]
          refine hK.out _ _ ?_ (fun hHeld => ?_)
          · first | exact hS3 | exact hS2 | exact hS1
          clear hK K
          try simp only [Act.put, List.setIfInBounds_toArray, List.set_cons_zero, List.set_cons_succ]
          refine wpAnyH_done (by kernel_rfl) ?_ _
          go_wp2_with fail
          go_meet
          exact ⟨_, rfl, HRZ.out.1, HRZ.out.2.1, HRZ.out.2.2⟩
        · skip
          go_simp
          have HBA : Hid (Below wr.heap.size wr (V0.alloc (.cells (ra (fun _ => 0) false false) 90))) := (HB0.out).alloc (HB0.out).size _
          have HRA : Hid (Rw9 (V0.alloc (.cells (ra (fun _ => 0) false false) 90)) V0.heap.size (fun _ => 0) false false) := new90 _ _ _ _
          have hbA := below_al V0 (.cells (ra (fun _ => 0) false false) 90)
          have hS1 := And.intro ((hbA.block _ (lt_at hS0.1)).trans hS0.1) ((hbA.cell (World.block_lt_of_cell? _ _ hS0.2)).trans hS0.2)
          clear hbA
          refine hK.out _ _ ?_ (fun hHeld => ?_)
          · first | exact hS3 | exact hS2 | exact hS1
          clear hK K
          try simp only [Act.put, List.setIfInBounds_toArray, List.set_cons_zero, List.set_cons_succ]
          refine wpAnyH_ready (rs := [5]) (by kernel_rfl) (by simp) ?_
          refine (AllReadyH.cons (o := { dst := some 45, op := Op.call { callee := Callee.value (Operand.func 76), args := #[Operand.tmp 40, Operand.tmp 44], argTypes := #[25, 77] }, type := 4, pos := "sure.go:46", after := #[{ on := 0, ground := Ground.data }, { on := 4, ground := Ground.data }], guard := none }) rfl (fun K hK => ?_) AllReadyH.nil)
          have KE := endsIn_any S w.heap.size F (.slice aa A.length ca) (.slice af F.length cf) af cf (.slice (some ⟨pg, 0, none⟩) ln pc) p.2 P (V0.alloc (.cells (ra (fun _ => 0) false false) 90)) rfl (HNF.out _ HBA.out) HG.out.2.2.1 (HNS.out _ HBA.out) HPP.out.1 hSpos (by omega)
          rw [HFB.out] at KE
          go_simp
          (with_reducible refine KE.mono ?_)
          clear KE
          rintro e1 VE ⟨rfl, hbE⟩
          dsimp only
          have HBE : Hid (Below wr.heap.size wr VE) := (HBA.out).trans (hbE.mono (HBA.out).size)
          have hS2 := And.intro ((hbE.block _ (lt_at hS1.1)).trans hS1.1) ((hbE.cell (World.block_lt_of_cell? _ _ hS1.2)).trans hS1.2)
          have HRA : Hid (Rw9 VE V0.heap.size (fun _ => 0) false false) := HRA.out.laid hbE
          clear hbE
          refine hK.out _ _ ?_ (fun hHeld => ?_)
          · first | exact hS3 | exact hS2 | exact hS1
          clear hK K
          try simp only [Act.put, List.setIfInBounds_toArray, List.set_cons_zero, List.set_cons_succ]
          refine wpAnyH_take (i := 6) (oi := { dst := some 46, op := Op.build 90 #[(1, Operand.tmp 45)], type := 90, pos := "sure.go:46", after := #[{ on := 5, ground := Ground.data }], guard := none }) (v := ?_) rfl (by kernel_rfl) (by kernel_rfl) (by kernel_rfl) (fun _ _ _ h => h) (Or.inl ⟨by rfl, ?_⟩) (by assumption) ?_
          case refine_2 => intro w _; refine ex_build90 (x := .tmp 45) (b := fb) ?_ ?_ w; rfl; rfl
          simp only [Act.put, List.setIfInBounds_toArray, List.set_cons_zero, List.set_cons_succ]
          refine wpAnyH_ready (rs := [8]) (by kernel_rfl) (by simp) ?_
          refine (AllReadyH.cons (o := { dst := none, op := Op.store 90 (Operand.tmp 10) (Operand.tmp 46), type := 0, pos := "sure.go:46", after := #[{ on := 7, ground := Ground.data }, { on := 6, ground := Ground.data }, { on := 5, ground := Ground.chain }, { on := 0, ground := Ground.phase }, { on := 1, ground := Ground.phase }, { on := 2, ground := Ground.phase }, { on := 3, ground := Ground.phase }, { on := 4, ground := Ground.phase }, { on := 5, ground := Ground.phase }, { on := 6, ground := Ground.phase }, { on := 7, ground := Ground.phase }], guard := none }) rfl (fun K hK => ?_) AllReadyH.nil)
          refine step_st90 rfl (.tmp 10) (.tmp 46) rfl (V0.heap.size) (fun _ => 0) (fun _ => 0) false false fb false rfl rfl HRA.out ?_
          have HRZ : Hid (Rw9 (VE.setRow (V0.heap.size) (ra (fun _ => 0) fb false)) (V0.heap.size) (fun _ => 0) fb false ∧ Below wr.heap.size wr (VE.setRow (V0.heap.size) (ra (fun _ => 0) fb false)) ∧ wr.heap.size ≤ V0.heap.size) := ⟨HRA.out.row _ _ _, below_kp HBE.out (kp_row _ _ _) (fun b hb e => by have e2 : b = _ := e; have h9 : wr.heap.size ≤ _ := (HB0.out.size); omega), HB0.out.size⟩
          have hkz : Kp (fun b => b = V0.heap.size) VE (VE.setRow (V0.heap.size) (ra (fun _ => 0) fb false)) := kp_row _ _ _
          have hS3 := And.intro ((hkz.block _ (lt_at hS2.1) (fun e => by have h9 := hS2.1; rw [e] at h9; exact ty_ne h9 HRA.out (by decide))).trans hS2.1) ((hkz.cell (World.block_lt_of_cell? _ _ hS2.2) (fun e => by have e2 : kg = _ := e; have h9 : wr.heap.size ≤ _ := (HB0.out.size); have := HD0.out.2; omega)).trans hS2.2)
          dsimp only [Act.put]
          refine hK.out _ _ ?_ (fun hHeld => ?_)
          · first | exact hS3 | exact hS2 | exact hS1
          clear hK K
          try simp only [Act.put, List.setIfInBounds_toArray, List.set_cons_zero, List.set_cons_succ]
          refine wpAnyH_done (by kernel_rfl) ?_ _
          go_wp2_with fail
          go_meet
          exact ⟨_, rfl, HRZ.out.1, HRZ.out.2.1, HRZ.out.2.2⟩
      case rest =>
      obtain ⟨b10, rfl, hrw, hbc, hge⟩ := hcut
      have HNT1 : Hid (Ntw w wc w.heap.size mb tp S sb A V vs #[.int .i64 (S : Int), .slice aa A.length ca, .slice af F.length cf] (.slice (some ⟨kg, 0, none⟩) m ck) vr ks k (Xk S A k) (fk S A F k) Gm) := HNT.out.laid hbc
      have HRW : Hid (Rw9 wc b10 (fun _ => 0) fb false ∧ w.heap.size ≤ b10 ∧ ∀ b, vr.ownBlock = some b → b ≠ b10) := ⟨hrw, Nat.le_trans HNT.out.below.size hge, fun b hb e => by have := (HNT.out.trow.lt b hb).2; omega⟩
      have HPS : Hid (IsSet wc w.heap.size (.slice (some ⟨pg, 0, none⟩) ln pc) S p.2) := by
        show IsSet _ _ _ _ _
        rw [← HPE.out.1]
        exact ⟨own_kp2 HPE.out.2.1 (kp_below hbc (fun _ => False)) (fun _ _ => id), HPE.out.2.2⟩
      have HTB : Hid (∀ W, Below w.heap.size w W → TabAt 0 Lib.deBruijn64tab W ∧ 0 < W.heap.size) := fun W hW => ⟨Tz.tab_below HG.out.2.2.2.1 HG.out.2.2.2.2 hW, Nat.lt_of_lt_of_le HG.out.2.2.2.2 hW.size⟩
      have K77 := read_any S w.heap.size sb w.heap.size A V vs (.slice (some ⟨pg, 0, none⟩) ln pc) p.2 P wc HNT1.out.rows HPS.out HPP.out.1 HG.out.1 (HTB.out _ HNT1.out.below).1 (HTB.out _ HNT1.out.below).2
      have d1 := (hbc.cell (p := ⟨kg, k, none⟩) HD0.out.2).trans HD0.out.1
      have HMS : Hid (∀ v, v ∈ Za.ms p.2 ↔ Set.mem p.2 v = true) := ms_mem HPP.out.1.wl (fun x hx => HPP.out.1.lt hx)
      have HSZ : Hid (w.heap.size ≤ wc.heap.size) := HNT1.out.below.size
      clear hrw hbc hge x1 HD0 HNT HPE HPS
      go_upto_region 13 with (go_at_call 77; (with_reducible refine K77.mono ?_); clear K77; rintro e w7 ⟨G, rfl, hgs, hb7, hrp⟩; have HG7 : Hid (Gs wc.heap.size w7 S G ∧ Below wc.heap.size wc w7 ∧ Rp A (Za.ms p.2) 0 0 G) := ⟨hgs, hb7, hrp⟩; clear hgs hb7 hrp)
      clear d1
      obtain ⟨bG, hbG⟩ : ∃ b, wc.heap.size = b := ⟨_, rfl⟩
      have HIN0 : Hid (Inw w w7 w.heap.size mb tp S sb A V vs #[.int .i64 (S : Int), .slice aa A.length ca, .slice af F.length cf] (.slice (some ⟨kg, 0, none⟩) m ck) vr ks k (Xk S A k) (fk S A F k) Gm b10 bG fb G 0 0 (fun _ => 0)) := ⟨HNT1.out.laid HG7.out.2.1, HRW.out.1.laid HG7.out.2.1, fun d q _ hq => by rw [← hbG]; exact HG7.out.1.set d q hq, fun q hq => .inl fun b hb => by rw [← hbG]; exact ((HNT1.out.each q hq).1.lt b hb).2, HRW.out.2.2, by rw [← hbG]; exact HSZ.out, HRW.out.2.1⟩
      have HGA : Hid (∀ d d' q q', d ≠ d' → G d = some q → G d' = some q' → ∀ b, q.1.ownBlock = some b → q'.1.ownBlock ≠ some b) := HG7.out.1.apart
      have HRP : Hid (Rp A (Za.ms p.2) 0 0 G) := HG7.out.2.2
      have HAL0 : Hid (Agl S ks (tr S A SL P (0 - 1)).1 ∧ ks.length ≤ 500) := ⟨by show Agl S ks SL; rw [← HPP.out.2.2]; exact HAL.out.1, by rw [HM.out]; exact hkl⟩
      have HKL : Hid (k < (tab S A k).1.length) := by show _ < _; rw [← HAL.out.1.len, HM.out]; exact hlt
      clear hbG HNT1 HG7 HRW HSZ
      go_loopw [6, 53] (fun a i wx => ∃ (c : Nat) (vk : Value) (ks : List (Value × List Nat)) (Gm : ByteArray → Option Nat) (XL : Nat → Int), a = vk ∧ i = .int .i64 (c : Int) ∧ c ≤ 61 ∧ Inw w wx w.heap.size mb tp S sb A V vs #[.int .i64 (S : Int), .slice aa A.length ca, .slice af F.length cf] vk vr ks k (Xk S A k) (fk S A F k) Gm b10 bG fb G c c XL ∧ Agl S ks (tr S A SL P (c - 1)).1 ∧ ks.length ≤ 500 ∧ (∀ j, j < c → XL j = rowX (tr S A SL P (c - 1)).2 j)) (fun _ i _ => 61 - (intOf i).toNat)
      case atStart => exact ⟨0, _, ks, Gm, fun _ => 0, rfl, rfl, by omega, HIN0.out, HAL0.out.1, HAL0.out.2, fun j h => absurd h (Nat.not_lt_zero j)⟩
      case round =>
        clear HIN0 HAL0
        obtain ⟨c, vk2, ks2, Gm2, XL, rfl, rfl, hc, hin, hal2, hkl2, hnum⟩ := hrel
        obtain ⟨ak2, ck2, rfl⟩ := oslice hin.n.sets
        obtain ⟨m2, hm2⟩ : ∃ m, ks2.length = m := ⟨_, rfl⟩
        rw [hm2] at hin hkl2
        have HM2 : Hid (ks2.length = m2) := hm2
        have HIN : Hid (Inw w wr w.heap.size mb tp S sb A V vs #[.int .i64 (S : Int), .slice aa A.length ca, .slice af F.length cf] (.slice ak2 m2 ck2) vr ks2 k (Xk S A k) (fk S A F k) Gm2 b10 bG fb G c c XL) := hin
        have HAL2 : Hid (Agl S ks2 (tr S A SL P (c - 1)).1 ∧ ∀ j, j < c → XL j = rowX (tr S A SL P (c - 1)).2 j) := ⟨hal2, hnum⟩
        rw [hm2]
        clear hin hal2 hnum hm2
        by_cases hc61 : c < 61
        · have hidx := idx147 G c hc61
          have r0 := HIN.out.row.x (j := c) hc61
          have r1 := HIN.out.row.frozen c
          have hci : (c : Int) < 61 := by omega
          have HIN1 : Hid (Inw w (wr.setCell ⟨b10, c, none⟩ (.int .i64 (-1))) w.heap.size mb tp S sb A V vs #[.int .i64 (S : Int), .slice aa A.length ca, .slice af F.length cf] (.slice ak2 m2 ck2) vr ks2 k (Xk S A k) (fk S A F k) Gm2 b10 bG fb G c c (up1 XL c (-1))) := HIN.out.num hc61 (-1)
          cases hgc : G c with
          | none =>
            rw [show gv G c = .slice none 0 0 by unfold gv; rw [hgc]] at hidx
            have q1 := eql77n
            have HSK : Hid _ := skip_at HPP.out.1 HRP.out HMS.out hgc HAL2.out.1 HAL2.out.2
            clear hgc
            go_wp2
            go_roundw
            case rel => exact ⟨c + 1, .slice ak2 m2 ck2, ks2, Gm2, up1 XL c (-1), rfl, by go_num, hc61, HIN1.out.next (Nat.le_succ c), HSK.out.1, by rw [HM2.out]; exact hkl2, HSK.out.2⟩
            case measure => simp [intOf]; omega
          | some q =>
            have hset := HIN1.out.gs c q (Nat.le_refl _) hgc
            obtain ⟨qg, qc, hqe, _, _⟩ := own_some hset.1.1 (by rw [hset.2, HLN.out.1]; exact HLN.out.2.1)
            rw [hset.2, HLN.out.1] at hqe
            rw [show gv G c = q.1 by unfold gv; rw [hgc], hqe] at hidx
            have q1 := eql77 ⟨qg, 0, none⟩ ln qc
            have HF : Hid (Ag S q.2 (mk S fun v => ∃ u, has P u ∧ Ed A (c : Int) u v) ∧ void (nx S A P c) = false ∧ c ≠ 0) := rp_full HPP.out.1 HRP.out HMS.out HG.out.1 hgc hset.2 hset.1.2.1
            have HGC : Hid (G c = some q ∧ q.1 = .slice (some ⟨qg, 0, none⟩) ln qc) := ⟨hgc, hqe⟩
            clear hgc hset hqe
            go_upto_region 17 with fail
            clear hidx q1 r0 r1
            generalize wr.setCell ⟨b10, c, none⟩ (.int .i64 (-1)) = Wa at *
            have K74 := closeSet_any S bG sb w.heap.size A V vs q.1 q.2 (mk S fun v => ∃ u, has P u ∧ Ed A (c : Int) u v) Wa HIN1.out.n.rows (HIN1.out.gs c q (Nat.le_refl _) HGC.out.1).1 HF.out.1 HG.out.1 (HTB.out _ HIN1.out.n.below).1 (HTB.out _ HIN1.out.n.below).2
            rw [HGC.out.2] at K74
            go_upto_region 18 with (go_at_call 74; (with_reducible refine K74.mono ?_); clear K74; rintro e wb ⟨rfl, ws', hs', ha', hk'⟩; rw [← HGC.out.2] at hs' hk'; have HIN2 : Hid (Inw w wb w.heap.size mb tp S sb A V vs #[.int .i64 (S : Int), .slice aa A.length ca, .slice af F.length cf] (.slice ak2 m2 ck2) vr ks2 k (Xk S A k) (fk S A F k) Gm2 b10 bG fb G c (c + 1) (up1 XL c (-1))) := (HIN1.out.close HGC.out.1 HGA.out hk').1; have HS2 : Hid (IsSet wb bG q.1 S ws' ∧ Ag S ws' (nx S A P c)) := ⟨hs', ha'⟩; clear hs' ha' hk')
            clear HIN1 HIN
            have K75 := key_any bG S q.1 ws' wb HS2.out.1 (by rw [HS2.out.2.wl, HLN.out.1]; have := HLN.out.2.2; omega) (by rw [HS2.out.2.wl, HLN.out.1]; exact HLN.out.2.1)
            rw [HGC.out.2] at K75
            obtain ⟨sk2, hsk2⟩ : ∃ sk, kst ws' = sk := ⟨_, rfl⟩
            have HSK : Hid (kst ws' = sk2 ∧ sk2.size ≤ maxLen) := ⟨hsk2, by rw [← hsk2, kst_size, HS2.out.2.wl, HLN.out.1]; have := HLN.out.2.2; unfold maxLen; omega⟩
            rw [show strOfNums ((kb ws').map fun (x : Nat) => (x : Int)) = sk2 from hsk2] at K75
            clear hsk2
            go_upto_region 19 with (go_at_call 75; (with_reducible refine K75.mono ?_); clear K75; rintro e wd ⟨rfl, hbd⟩; have HIN3 : Hid (Inw w wd w.heap.size mb tp S sb A V vs #[.int .i64 (S : Int), .slice aa A.length ca, .slice af F.length cf] (.slice ak2 m2 ck2) vr ks2 k (Xk S A k) (fk S A F k) Gm2 b10 bG fb G c (c + 1) (up1 XL c (-1))) := HIN2.out.laid hbd; have HS3 : Hid (IsSet wd bG q.1 S ws') := ⟨own_kp2 HS2.out.1.1 (kp_below hbd (fun _ => False)) (fun _ _ => id), HS2.out.1.2⟩; clear hbd)
            clear HIN2
            have hlook := HIN3.out.n.mp.look (s := sk2) HSK.out.2
            cases hgm : Gm2 sk2 with
            | some i =>
              rw [hgm] at hlook
              dsimp only at hlook
              have HOA : Hid _ := old_at HF.out.2.1 HF.out.2.2 HAL2.out.1 HIN3.out.n.met HS2.out.2 (by rw [HSK.out.1]; exact hgm) HAL2.out.2
              have r0 := HIN3.out.row.x (j := c) hc61
              have r1 := HIN3.out.row.frozen c
              have HIN5 : Hid (Inw w (wd.setCell ⟨b10, c, none⟩ (.int .i64 (i : Int))) w.heap.size mb tp S sb A V vs #[.int .i64 (S : Int), .slice aa A.length ca, .slice af F.length cf] (.slice ak2 m2 ck2) vr ks2 k (Xk S A k) (fk S A F k) Gm2 b10 bG fb G c (c + 1) (up1 (up1 XL c (-1)) c (i : Int))) := HIN3.out.num hc61 (i : Int)
              clear hgm
              go_wp2
              go_roundw
              case rel => exact ⟨c + 1, .slice ak2 m2 ck2, ks2, Gm2, up1 (up1 XL c (-1)) c (i : Int), rfl, by go_num, hc61, HIN5.out.next (Nat.le_refl _), HOA.out.1, by rw [HM2.out]; exact hkl2, HOA.out.2.1⟩
              case measure => simp [intOf]; omega
            | none =>
              rw [hgm] at hlook
              dsimp only at hlook
              have HNA : Hid (Agl S (ks2 ++ [(q.1, ws')]) (tr S A SL P (c + 1 - 1)).1 ∧ (∀ j, j < c + 1 → up1 (up1 XL c (-1)) c (m2 : Int) j = rowX (tr S A SL P (c + 1 - 1)).2 j) ∧ Gm2 (kst ws') = none) := by
                have h := new_at (v := q.1) HF.out.2.1 HF.out.2.2 HAL2.out.1 HIN3.out.n.met HS2.out.2 (by rw [HSK.out.1]; exact hgm) HAL2.out.2
                rw [HM2.out] at h
                exact ⟨h.1, h.2, by rw [HSK.out.1]; exact hgm⟩
              clear hgm
              by_cases h500 : m2 = 500
              · have HMY : Hid (Many S A) := many_of HAL.out.2 HKL.out (c := c) (by omega) (by have h := HNA.out.1; rw [Nat.add_sub_cancel, ← HPP.out.2.2, ← HPP.out.2.1] at h; exact h) (by rw [HM2.out]; exact h500)
                have HBE : Hid (Below w.heap.size w wd) := HIN3.out.n.below
                have q5 : ((m2 : Int) == 500) = true := by have h : (m2 : Int) = 500 := (by omega); simpa using h
                clear h500
                go_wp2
                go_ret2
                exact .inr ⟨rfl, HMY.out, HBE.out⟩
              · have q5 : ((m2 : Int) == 500) = false := by have h : ¬ (m2 : Int) = 500 := (by omega); simpa using h
                have HML : Hid (m2 < 500) := Nat.lt_of_le_of_ne hkl2 h500
                obtain ⟨we, hr', hsm', hg'⟩ := HIN3.out.n.mp.store (c := m2) (by rw [HM2.out]; have := HML.out; unfold maxLen; omega) (s := sk2) HSK.out.2
                have hkm' : Kp (fun b => b = mb) wd we := (Kp.refl _ wd).grown hg' (fun b hb _ => (by injection hb with hb; exact hb.symm))
                have HSE : Hid (we.ownsRow w.heap.size 77 1 (.slice ak2 m2 ck2) m2 (ks2.map Prod.fst)) := by
                  have h := own_kp2 HIN3.out.n.sets hkm' (fun b hb e => by
                    obtain ⟨es, cl, hmb⟩ := HIN3.out.n.mp.ty
                    obtain ⟨d, hd⟩ := own_ty HIN3.out.n.sets hb
                    rw [e, hmb] at hd
                    cases hd)
                  rw [HM2.out] at h
                  exact h
                have HSM : Hid (IsSm we mb (ks2.length + 1) (fun s' => if s' = kst ws' then some ks2.length else Gm2 s') ∧ wd.grownBy we (some mb) ∧ w.heap.size ≤ we.heap.size) := ⟨by rw [HSK.out.1, HM2.out]; rw [HM2.out] at hsm'; exact hsm', hg', Nat.le_trans HIN3.out.n.below.size hkm'.size⟩
                clear hsm' hg' hkm' h500
                go_upto_region 25 with fail
                clear hlook hr' q5
                go_upto_region 26 with (refine wpList_append_own_at _ rfl _ _ 120 rfl w.heap.size 77 i77 (.slice none 0 0) 1 24 Tryd.underlying120 hi77 hy0 hy1 hy2 rfl (by decide) _ _ _ rfl (HSE.out.alloc _) ⟨_, 0, none⟩ 1 1 [.slice (some ⟨qg, 0, none⟩) ln qc] rfl rfl (cell_one_new _ _ _) (sl_one _ rfl) (by have := HML.out; unfold maxLen; omega) (by have := HML.out; omega) (by have := HSM.out.2.2; simp; omega) ?_; intro v6 w6 ho6 hg6 _ hl6; obtain ⟨g6, c6, rfl, _, _⟩ := own_some ho6 (Nat.succ_pos _); have HIN4 : Hid (Inw w w6 w.heap.size mb tp S sb A V vs #[.int .i64 (S : Int), .slice aa A.length ca, .slice af F.length cf] (.slice (some ⟨g6, 0, none⟩) (m2 + 1) c6) vr (ks2 ++ [(q.1, ws')]) k (Xk S A k) (fk S A F k) (fun s' => if s' = kst ws' then some ks2.length else Gm2 s') b10 bG fb G (c + 1) (c + 1) (up1 XL c (-1))) := HIN3.out.addSet HGC.out.1 HNA.out.2.2 HS3.out HSM.out.1 HSM.out.2.1 (by rw [HM2.out, HGC.out.2]; exact ho6) (by rw [HGC.out.2]; exact hg6); clear ho6 hg6 hl6)
                clear HIN3 HSE HSM
                have r0 := HIN4.out.row.x (j := c) hc61
                have r1 := HIN4.out.row.frozen c
                have HIN5 : Hid (Inw w (w6.setCell ⟨b10, c, none⟩ (.int .i64 (m2 : Int))) w.heap.size mb tp S sb A V vs #[.int .i64 (S : Int), .slice aa A.length ca, .slice af F.length cf] (.slice (some ⟨g6, 0, none⟩) (m2 + 1) c6) vr (ks2 ++ [(q.1, ws')]) k (Xk S A k) (fk S A F k) (fun s' => if s' = kst ws' then some ks2.length else Gm2 s') b10 bG fb G (c + 1) (c + 1) (up1 (up1 XL c (-1)) c (m2 : Int))) := HIN4.out.num hc61 (m2 : Int)
                go_wp2
                go_roundw
                case rel => exact ⟨c + 1, .slice (some ⟨g6, 0, none⟩) (m2 + 1) c6, ks2 ++ [(q.1, ws')], _, up1 (up1 XL c (-1)) c (m2 : Int), rfl, by go_num, hc61, HIN5.out, HNA.out.1, by rw [List.length_append, HM2.out]; exact HML.out, HNA.out.2.1⟩
                case measure => simp [intOf]; omega
        · obtain rfl : c = 61 := by omega
          have HEND : Hid (Agl S ks2 (tab S A (k + 1)).1 ∧ (∀ j, j < 61 → XL j = Xk S A (k + 1) k j) ∧ fb = fk S A F (k + 1) k ∧ At S A (k + 1)) := by
            have e1 : (tab S A (k + 1)).1 = (tr S A SL P (61 - 1)).1 := by rw [tab_up1, HPP.out.2.1, HPP.out.2.2]
            refine ⟨by rw [e1]; exact HAL2.out.1, fun j hj => ?_, ?_, HAL.out.2.up HKL.out⟩
            · rw [Xk_new, HPP.out.2.1, HPP.out.2.2]
              exact HAL2.out.2 j hj
            · rw [fk_old HKL.out]
              show fb = fi F ((tab S A k).1.getD k [])
              rw [HPP.out.2.1]
              exact HFB.out.symm
          obtain ⟨ar, cr, rfl⟩ := oslice HIN.out.n.trow
          go_upto_region 28 with fail
          refine wp_region_held_drew (S := fun W => Rw9 W b10 XL fb false) (by kernel_rfl) (by exact HIN.out.row) (fun hHeld => ?_)
          have hS0 := hHeld
          have HI0 : Hid (Inw w wr.drew w.heap.size mb tp S sb A V vs #[.int .i64 (S : Int), .slice aa A.length ca, .slice af F.length cf] (.slice ak2 m2 ck2) (.slice ar k cr) ks2 k (Xk S A k) (fk S A F k) Gm2 b10 bG fb G 61 61 XL) := HIN.out.laid (below_drewN (Below.refl _ _) 1)
          clear HIN
          generalize hV0 : wr.drew = V0 at *
          clear hV0
          refine wpAnyH_take (i := 0) (oi := { dst := some 91, op := Op.move (Operand.tmp 8), type := 85, pos := "sure.go:65", after := #[], guard := none }) (v := ?_) rfl (by kernel_rfl) (by kernel_rfl) (by kernel_rfl) (fun _ _ _ h => h) (Or.inl ⟨by rfl, ?_⟩) (by assumption) ?_
          case refine_2 => intro w hSw; (try dsimp only at hSw); go_simp; (try with_reducible rfl)
          simp only [Act.put, List.setIfInBounds_toArray, List.set_cons_zero, List.set_cons_succ]
          refine wpAnyH_take (i := 1) (oi := { dst := some 92, op := Op.move (Operand.tmp 8), type := 85, pos := "sure.go:65", after := #[], guard := none }) (v := ?_) rfl (by kernel_rfl) (by kernel_rfl) (by kernel_rfl) (fun _ _ _ h => h) (Or.inl ⟨by rfl, ?_⟩) (by assumption) ?_
          case refine_2 => intro w hSw; (try dsimp only at hSw); go_simp; (try with_reducible rfl)
          simp only [Act.put, List.setIfInBounds_toArray, List.set_cons_zero, List.set_cons_succ]
          refine wpAnyH_take (i := 2) (oi := { dst := some 93, op := Op.nilCheck (Operand.tmp 92), type := 0, pos := "sure.go:65", after := #[{ on := 1, ground := Ground.data }], guard := none }) (v := ?_) rfl (by kernel_rfl) (by kernel_rfl) (by kernel_rfl) (fun _ _ _ h => h) (Or.inl ⟨by rfl, ?_⟩) (by assumption) ?_
          case refine_2 => intro w hSw; (try dsimp only at hSw); go_simp; (try with_reducible rfl)
          simp only [Act.put, List.setIfInBounds_toArray, List.set_cons_zero, List.set_cons_succ]
          refine wpAnyH_take (i := 3) (oi := { dst := some 94, op := Op.fieldAddr 93 (Operand.tmp 93) 0, type := 0, pos := "sure.go:65", after := #[{ on := 2, ground := Ground.data }], guard := none }) (v := ?_) rfl (by kernel_rfl) (by kernel_rfl) (by kernel_rfl) (fun _ _ _ h => h) (Or.inl ⟨by rfl, ?_⟩) (by assumption) ?_
          case refine_2 => intro w hSw; (try dsimp only at hSw); go_simp; (try with_reducible rfl)
          simp only [Act.put, List.setIfInBounds_toArray, List.set_cons_zero, List.set_cons_succ]
          refine wpAnyH_take (i := 5) (oi := { dst := some 96, op := Op.load 90 (Operand.tmp 10), type := 90, pos := "sure.go:65", after := #[], guard := none }) (v := .agg (ra XL fb false)) rfl (by kernel_rfl) (by kernel_rfl) (by kernel_rfl) (fun _ _ _ h => h) (take90 (by rfl) (.tmp 10) rfl b10 0 XL fb false rfl (fun W hW => hW.range)) (by assumption) ?_
          simp only [Act.put, List.setIfInBounds_toArray, List.set_cons_zero, List.set_cons_succ]
          refine wpAnyH_ready (rs := [4, 6]) (by kernel_rfl) (by simp) ?_
          refine (AllReadyH.cons (o := { dst := some 95, op := Op.load 91 (Operand.tmp 94), type := 91, pos := "sure.go:65", after := #[{ on := 3, ground := Ground.data }], guard := none }) rfl (fun K hK => ?_) (AllReadyH.cons (o := { dst := some 97, op := Op.buildSlice 91 1 #[(0, Operand.tmp 96)], type := 91, pos := "sure.go:65", after := #[{ on := 5, ground := Ground.data }], guard := none }) rfl (fun K hK => ?_) AllReadyH.nil))
          · skip
            have zt := cell_of_row _ _ 0 _ _ _ HI0.out.n.tbx
            go_simp
            clear zt
            refine hK.out _ _ ?_ (fun hHeld => ?_)
            · first | exact hS3 | exact hS2 | exact hS1 | exact hS0
            clear hK K
            try simp only [Act.put, List.setIfInBounds_toArray, List.set_cons_zero, List.set_cons_succ]
            refine wpAnyH_ready (rs := [6]) (by kernel_rfl) (by simp) ?_
            refine (AllReadyH.cons (o := { dst := some 97, op := Op.buildSlice 91 1 #[(0, Operand.tmp 96)], type := 91, pos := "sure.go:65", after := #[{ on := 5, ground := Ground.data }], guard := none }) rfl (fun K hK => ?_) AllReadyH.nil)
            refine step_bs90 rfl (.tmp 96) rfl XL fb false rfl ?_
            have HIA : Hid (Inw w (V0.alloc (.cells (ra XL fb false) 90)) w.heap.size mb tp S sb A V vs #[.int .i64 (S : Int), .slice aa A.length ca, .slice af F.length cf] (.slice ak2 m2 ck2) (.slice ar k cr) ks2 k (Xk S A k) (fk S A F k) Gm2 b10 bG fb G 61 61 XL) := HI0.out.laid (below_al _ _)
            have hS1 := HIA.out.row
            refine hK.out _ _ ?_ (fun hHeld => ?_)
            · first | exact hS3 | exact hS2 | exact hS1 | exact hS0
            clear hK K
            try simp only [Act.put, List.setIfInBounds_toArray, List.set_cons_zero, List.set_cons_succ]
            refine wpAnyH_ready (rs := [7]) (by kernel_rfl) (by simp) ?_
            refine (AllReadyH.cons (o := { dst := some 98, op := Op.call { callee := Callee.builtin Builtin.append, args := #[Operand.tmp 95, Operand.tmp 97], argTypes := #[91, 91] }, type := 91, pos := "sure.go:65", after := #[{ on := 4, ground := Ground.data }, { on := 6, ground := Ground.data }], guard := none }) rfl (fun K hK => ?_) AllReadyH.nil)
            refine step_append_at rfl (.tmp 95) (.tmp 97) 91 rfl w.heap.size 90 i90 (.agg (ra (fun _ => 0) false false)) 63 496 Tryd.underlying91 hi90 hz0 hz1 hz2 (by show (ra _ _ _).size = 63; exact ra_size _ _ _) (by decide) (.slice ar k cr) k _ rfl HIA.out.n.trow ⟨V0.heap.size, 0, none⟩ 1 1 (rl XL fb false) rfl (by rw [rl_len]) (cell_63 V0 XL fb false) (rl_one _ _ _) (by unfold maxLen; omega) (by omega) HIA.out.n.below.size ?_
            intro v7 w7 ho7 hg7 hl7
            obtain ⟨g7, c7, rfl, _, _⟩ := own_some ho7 (Nat.succ_pos _)
            have hrw := HIA.out.n.addRow (X' := Xk S A (k + 1)) (f' := fk S A F (k + 1)) ho7 hg7 (fun i hi => ⟨fun j _ => (congrFun (Xk_old hi) j).symm, (fk_old (Nat.lt_trans hi HKL.out)).symm⟩) ⟨HEND.out.2.1, HEND.out.2.2.1⟩
            have HNR : Hid (Ntw w (w7.setCell ⟨tp, 0, none⟩ (.slice (some ⟨g7, 0, none⟩) (k + 1) c7)) w.heap.size mb tp S sb A V vs #[.int .i64 (S : Int), .slice aa A.length ca, .slice af F.length cf] (.slice ak2 m2 ck2) (.slice (some ⟨g7, 0, none⟩) (k + 1) c7) ks2 (k + 1) (Xk S A (k + 1)) (fk S A F (k + 1)) Gm2) := hrw.2
            have ht7 := hrw.1
            have f7 := frozen_of_row _ _ 0 _ _ ht7
            have e7 := cell_of_row _ _ 0 _ _ _ ht7
            have hS2 := HIA.out.row.kept ((Kp.refl (fun b => (Value.slice ar k cr).ownBlock = some b) _).grown hg7 (fun b hb _ => hb)) (fun e => HIA.out.vr10 _ e rfl)
            clear hrw
            refine hK.out _ _ ?_ (fun hHeld => ?_)
            · first | exact hS3 | exact hS2 | exact hS1 | exact hS0
            clear hK K
            try simp only [Act.put, List.setIfInBounds_toArray, List.set_cons_zero, List.set_cons_succ]
            refine wpAnyH_take (i := 8) (oi := { dst := some 99, op := Op.nilCheck (Operand.tmp 91), type := 0, pos := "sure.go:65", after := #[{ on := 0, ground := Ground.data }, { on := 0, ground := Ground.phase }, { on := 1, ground := Ground.phase }, { on := 2, ground := Ground.phase }, { on := 3, ground := Ground.phase }, { on := 4, ground := Ground.phase }, { on := 5, ground := Ground.phase }, { on := 6, ground := Ground.phase }, { on := 7, ground := Ground.phase }], guard := none }) (v := ?_) rfl (by kernel_rfl) (by kernel_rfl) (by kernel_rfl) (fun _ _ _ h => h) (Or.inl ⟨by rfl, ?_⟩) (by assumption) ?_
            case refine_2 => intro w hSw; (try dsimp only at hSw); go_simp; (try with_reducible rfl)
            simp only [Act.put, List.setIfInBounds_toArray, List.set_cons_zero, List.set_cons_succ]
            refine wpAnyH_take (i := 9) (oi := { dst := some 100, op := Op.fieldAddr 93 (Operand.tmp 99) 0, type := 0, pos := "sure.go:65", after := #[{ on := 8, ground := Ground.data }, { on := 0, ground := Ground.phase }, { on := 1, ground := Ground.phase }, { on := 2, ground := Ground.phase }, { on := 3, ground := Ground.phase }, { on := 4, ground := Ground.phase }, { on := 5, ground := Ground.phase }, { on := 6, ground := Ground.phase }, { on := 7, ground := Ground.phase }], guard := none }) (v := ?_) rfl (by kernel_rfl) (by kernel_rfl) (by kernel_rfl) (fun _ _ _ h => h) (Or.inl ⟨by rfl, ?_⟩) (by assumption) ?_
            case refine_2 => intro w hSw; (try dsimp only at hSw); go_simp; (try with_reducible rfl)
            simp only [Act.put, List.setIfInBounds_toArray, List.set_cons_zero, List.set_cons_succ]
            refine wpAnyH_ready (rs := [10]) (by kernel_rfl) (by simp) ?_
            refine (AllReadyH.cons (o := { dst := none, op := Op.store 91 (Operand.tmp 100) (Operand.tmp 98), type := 0, pos := "sure.go:65", after := #[{ on := 9, ground := Ground.data }, { on := 7, ground := Ground.data }, { on := 7, ground := Ground.chain }, { on := 0, ground := Ground.phase }, { on := 1, ground := Ground.phase }, { on := 2, ground := Ground.phase }, { on := 3, ground := Ground.phase }, { on := 4, ground := Ground.phase }, { on := 5, ground := Ground.phase }, { on := 6, ground := Ground.phase }, { on := 7, ground := Ground.phase }], guard := none }) rfl (fun K hK => ?_) AllReadyH.nil)
            go_simp
            have hS3 := hS2.kept ((Kp.refl (fun b => b = tp) w7).setCell tp 0 (.slice (some ⟨g7, 0, none⟩) (k + 1) c7) (fun _ => rfl)) (fun e => by have h9 := hS2; rw [show b10 = tp from e] at h9; exact ty_ne h9 ht7 (by decide))
            refine hK.out _ _ ?_ (fun hHeld => ?_)
            · first | exact hS3 | exact hS2 | exact hS1 | exact hS0
            clear hK K
            try simp only [Act.put, List.setIfInBounds_toArray, List.set_cons_zero, List.set_cons_succ]
            refine wpAnyH_done (by kernel_rfl) ?_ _
            clear hS0 hS1 hS2 hS3 ht7 f7 e7
            go_wp2
            go_roundw
            case rel => exact ⟨k + 1, .slice ak2 m2 ck2, .slice (some ⟨g7, 0, none⟩) (k + 1) c7, ks2, Gm2, rfl, by go_num, HNR.out, HEND.out.1, HEND.out.2.2.2, by rw [HM2.out]; exact hkl2⟩
            case measure => simp [intOf]; omega
          · skip
            refine step_bs90 rfl (.tmp 96) rfl XL fb false rfl ?_
            have HIA : Hid (Inw w (V0.alloc (.cells (ra XL fb false) 90)) w.heap.size mb tp S sb A V vs #[.int .i64 (S : Int), .slice aa A.length ca, .slice af F.length cf] (.slice ak2 m2 ck2) (.slice ar k cr) ks2 k (Xk S A k) (fk S A F k) Gm2 b10 bG fb G 61 61 XL) := HI0.out.laid (below_al _ _)
            have hS1 := HIA.out.row
            refine hK.out _ _ ?_ (fun hHeld => ?_)
            · first | exact hS3 | exact hS2 | exact hS1 | exact hS0
            clear hK K
            try simp only [Act.put, List.setIfInBounds_toArray, List.set_cons_zero, List.set_cons_succ]
            refine wpAnyH_ready (rs := [4]) (by kernel_rfl) (by simp) ?_
            refine (AllReadyH.cons (o := { dst := some 95, op := Op.load 91 (Operand.tmp 94), type := 91, pos := "sure.go:65", after := #[{ on := 3, ground := Ground.data }], guard := none }) rfl (fun K hK => ?_) AllReadyH.nil)
            have zt := cell_of_row _ _ 0 _ _ _ HIA.out.n.tbx
            go_simp
            clear zt
            refine hK.out _ _ ?_ (fun hHeld => ?_)
            · first | exact hS3 | exact hS2 | exact hS1 | exact hS0
            clear hK K
            try simp only [Act.put, List.setIfInBounds_toArray, List.set_cons_zero, List.set_cons_succ]
            refine wpAnyH_ready (rs := [7]) (by kernel_rfl) (by simp) ?_
            refine (AllReadyH.cons (o := { dst := some 98, op := Op.call { callee := Callee.builtin Builtin.append, args := #[Operand.tmp 95, Operand.tmp 97], argTypes := #[91, 91] }, type := 91, pos := "sure.go:65", after := #[{ on := 4, ground := Ground.data }, { on := 6, ground := Ground.data }], guard := none }) rfl (fun K hK => ?_) AllReadyH.nil)
            refine step_append_at rfl (.tmp 95) (.tmp 97) 91 rfl w.heap.size 90 i90 (.agg (ra (fun _ => 0) false false)) 63 496 Tryd.underlying91 hi90 hz0 hz1 hz2 (by show (ra _ _ _).size = 63; exact ra_size _ _ _) (by decide) (.slice ar k cr) k _ rfl HIA.out.n.trow ⟨V0.heap.size, 0, none⟩ 1 1 (rl XL fb false) rfl (by rw [rl_len]) (cell_63 V0 XL fb false) (rl_one _ _ _) (by unfold maxLen; omega) (by omega) HIA.out.n.below.size ?_
            intro v7 w7 ho7 hg7 hl7
            obtain ⟨g7, c7, rfl, _, _⟩ := own_some ho7 (Nat.succ_pos _)
            have hrw := HIA.out.n.addRow (X' := Xk S A (k + 1)) (f' := fk S A F (k + 1)) ho7 hg7 (fun i hi => ⟨fun j _ => (congrFun (Xk_old hi) j).symm, (fk_old (Nat.lt_trans hi HKL.out)).symm⟩) ⟨HEND.out.2.1, HEND.out.2.2.1⟩
            have HNR : Hid (Ntw w (w7.setCell ⟨tp, 0, none⟩ (.slice (some ⟨g7, 0, none⟩) (k + 1) c7)) w.heap.size mb tp S sb A V vs #[.int .i64 (S : Int), .slice aa A.length ca, .slice af F.length cf] (.slice ak2 m2 ck2) (.slice (some ⟨g7, 0, none⟩) (k + 1) c7) ks2 (k + 1) (Xk S A (k + 1)) (fk S A F (k + 1)) Gm2) := hrw.2
            have ht7 := hrw.1
            have f7 := frozen_of_row _ _ 0 _ _ ht7
            have e7 := cell_of_row _ _ 0 _ _ _ ht7
            have hS2 := HIA.out.row.kept ((Kp.refl (fun b => (Value.slice ar k cr).ownBlock = some b) _).grown hg7 (fun b hb _ => hb)) (fun e => HIA.out.vr10 _ e rfl)
            clear hrw
            refine hK.out _ _ ?_ (fun hHeld => ?_)
            · first | exact hS3 | exact hS2 | exact hS1 | exact hS0
            clear hK K
            try simp only [Act.put, List.setIfInBounds_toArray, List.set_cons_zero, List.set_cons_succ]
            refine wpAnyH_take (i := 8) (oi := { dst := some 99, op := Op.nilCheck (Operand.tmp 91), type := 0, pos := "sure.go:65", after := #[{ on := 0, ground := Ground.data }, { on := 0, ground := Ground.phase }, { on := 1, ground := Ground.phase }, { on := 2, ground := Ground.phase }, { on := 3, ground := Ground.phase }, { on := 4, ground := Ground.phase }, { on := 5, ground := Ground.phase }, { on := 6, ground := Ground.phase }, { on := 7, ground := Ground.phase }], guard := none }) (v := ?_) rfl (by kernel_rfl) (by kernel_rfl) (by kernel_rfl) (fun _ _ _ h => h) (Or.inl ⟨by rfl, ?_⟩) (by assumption) ?_
            case refine_2 => intro w hSw; (try dsimp only at hSw); go_simp; (try with_reducible rfl)
            simp only [Act.put, List.setIfInBounds_toArray, List.set_cons_zero, List.set_cons_succ]
            refine wpAnyH_take (i := 9) (oi := { dst := some 100, op := Op.fieldAddr 93 (Operand.tmp 99) 0, type := 0, pos := "sure.go:65", after := #[{ on := 8, ground := Ground.data }, { on := 0, ground := Ground.phase }, { on := 1, ground := Ground.phase }, { on := 2, ground := Ground.phase }, { on := 3, ground := Ground.phase }, { on := 4, ground := Ground.phase }, { on := 5, ground := Ground.phase }, { on := 6, ground := Ground.phase }, { on := 7, ground := Ground.phase }], guard := none }) (v := ?_) rfl (by kernel_rfl) (by kernel_rfl) (by kernel_rfl) (fun _ _ _ h => h) (Or.inl ⟨by rfl, ?_⟩) (by assumption) ?_
            case refine_2 => intro w hSw; (try dsimp only at hSw); go_simp; (try with_reducible rfl)
            simp only [Act.put, List.setIfInBounds_toArray, List.set_cons_zero, List.set_cons_succ]
            refine wpAnyH_ready (rs := [10]) (by kernel_rfl) (by simp) ?_
            refine (AllReadyH.cons (o := { dst := none, op := Op.store 91 (Operand.tmp 100) (Operand.tmp 98), type := 0, pos := "sure.go:65", after := #[{ on := 9, ground := Ground.data }, { on := 7, ground := Ground.data }, { on := 7, ground := Ground.chain }, { on := 0, ground := Ground.phase }, { on := 1, ground := Ground.phase }, { on := 2, ground := Ground.phase }, { on := 3, ground := Ground.phase }, { on := 4, ground := Ground.phase }, { on := 5, ground := Ground.phase }, { on := 6, ground := Ground.phase }, { on := 7, ground := Ground.phase }], guard := none }) rfl (fun K hK => ?_) AllReadyH.nil)
            go_simp
            have hS3 := hS2.kept ((Kp.refl (fun b => b = tp) w7).setCell tp 0 (.slice (some ⟨g7, 0, none⟩) (k + 1) c7) (fun _ => rfl)) (fun e => by have h9 := hS2; rw [show b10 = tp from e] at h9; exact ty_ne h9 ht7 (by decide))
            refine hK.out _ _ ?_ (fun hHeld => ?_)
            · first | exact hS3 | exact hS2 | exact hS1 | exact hS0
            clear hK K
            try simp only [Act.put, List.setIfInBounds_toArray, List.set_cons_zero, List.set_cons_succ]
            refine wpAnyH_done (by kernel_rfl) ?_ _
            clear hS0 hS1 hS2 hS3 ht7 f7 e7
            go_wp2
            go_roundw
            case rel => exact ⟨k + 1, .slice ak2 m2 ck2, .slice (some ⟨g7, 0, none⟩) (k + 1) c7, ks2, Gm2, rfl, by go_num, HNR.out, HEND.out.1, HEND.out.2.2.2, by rw [HM2.out]; exact hkl2⟩
            case measure => simp [intOf]; omega
    · obtain rfl : k = m := by omega
      have HDN : Hid (Done S A k) := ⟨HAL.out.2, by rw [← HAL.out.1.len]; exact HM.out, hkl⟩
      have htr := HNT.out.trow
      have h0k : 0 < k := by
        have h1 := (tab_pre S A 0 k (Nat.zero_le _)).length_le
        rw [← HAL.out.1.len, HM.out] at h1
        exact h1
      obtain ⟨g, cap, hge, _, _⟩ := own_some htr h0k
      have HPT : Hid (PT wr w.heap.size tp g k cap (Xk S A k) (fk S A F k) (fun _ => false)) := by
        rw [hge] at htr
        have hb := HNT.out.tbx
        rw [hge] at hb
        exact ⟨hb, htr⟩
      have HBE : Hid (w.heap.size ≤ tp ∧ Below w.heap.size w wr) := ⟨HNT.out.tge, HNT.out.below⟩
      clear htr hge
      go_wp2
      go_ret2
      exact .inl ⟨k, tp, g, cap, rfl, HDN.out, HPT.out, HBE.out.1, HBE.out.2⟩
end Go.Proofs.YtfjocafepigijaaDoor.Su
