/- Texts of starts: how one lies; Clone (92); what a branch list must be, in plain words. Conditions: texts of at most 1000 symbols. -/
import Derived.Test.YtfjocafepigijaaDoorUrM
namespace Go.Proofs.YtfjocafepigijaaDoor.Ot
open Go.RowKit Mv Sy Po Ps Cm Pa Am Wd St Ra Set

/-- a text lies in a block of numbers -/
def Tx (w : World) (v : Value) (t : List Int) : Prop := ∃ a c, v = .slice a t.length c ∧ ((t = [] ∧ v = .slice none 0 0) ∨ ∃ b off cs, a = some ⟨b, off, none⟩ ∧ w.heap[b]? = some (.cells cs 3 (0, 0)) ∧ ∀ j u, (ints t)[j]? = some u → w.cell? ⟨b, off + j, none⟩ = some u)
theorem Tx.kept {w w' : World} {v : Value} {t : List Int} {X : Nat → Prop} (h : Tx w v t) (hk : Kp X w w') (hX : ∀ b cs, w.heap[b]? = some (.cells cs 3 (0, 0)) → ¬ X b) : Tx w' v t := by
  obtain ⟨a, c, hv, h⟩ := h
  refine ⟨a, c, hv, h.imp id ?_⟩
  rintro ⟨b, off, cs, h1, h2, h3⟩
  exact ⟨b, off, cs, h1, (hk.block b (lt_at h2) (hX b cs h2)).trans h2, fun j u hu => (hk.cell (lt_at h2) (hX b cs h2)).trans (h3 j u hu)⟩
theorem Tx.below {w w' : World} {v : Value} {t : List Int} (h : Tx w v t) (hb : Below w.heap.size w w') : Tx w' v t := h.kept (kp_below hb (fun _ => False)) (fun _ _ _ => id)
theorem Tx.own {w : World} {base : Nat} {v : Value} {t : List Int} (h : w.ownsRow base 3 1 v t.length (ints t)) (h0 : 0 < t.length) : Tx w v t := by
  obtain ⟨g, cap, rfl, _, _⟩ := own_some h h0
  obtain ⟨cs, hcs⟩ := own_ty h (k := g) rfl
  refine ⟨_, _, rfl, .inr ⟨g, 0, cs, rfl, hcs, fun j u hu => ?_⟩⟩
  have hj : j < t.length := by have := (List.getElem?_eq_some_iff.1 hu).1; simpa [ints] using this
  rw [Nat.zero_add]
  exact (h.cellAt j (by omega)).trans hu
theorem Tx.row {w : World} {v : Value} {t : List Int} (h : Tx w v t) (hl : t.length ≤ 1000) : Mv.Row w v 1 t.length (ints t) := by
  obtain ⟨a, c, rfl, h⟩ := h
  refine ⟨by simp [ints], a, c, rfl, by omega, ?_⟩
  rcases h with ⟨h, _⟩ | ⟨b, off, cs, h1, h2, h3⟩
  · exact .inl (by rw [h]; rfl)
  · exact .inr ⟨b, off, h1, lt_at h2, h3⟩
theorem eql26 (a : Addr) (n c : Nat) (W : World) : Sem.run Tryd.prog (binOp BinOp.eql 26 (.slice (some a) n c) (.slice none 0 0)) W = .ok (.bool false) W := by kernel_rfl
theorem eql26n (W : World) : Sem.run Tryd.prog (binOp BinOp.eql 26 (.slice none 0 0) (.slice none 0 0)) W = .ok (.bool true) W := by kernel_rfl
theorem eql175 (a : Addr) (n c : Nat) (W : World) : Sem.run Tryd.prog (binOp BinOp.eql 175 (.slice (some a) n c) (.slice none 0 0)) W = .ok (.bool false) W := by kernel_rfl
theorem eql175n (W : World) : Sem.run Tryd.prog (binOp BinOp.eql 175 (.slice none 0 0) (.slice none 0 0)) W = .ok (.bool true) W := by kernel_rfl
theorem ints_all (t : List Int) : ∀ u ∈ ints t, u.oneCell' = true := by
  intro u hu
  obtain ⟨x, _, rfl⟩ := List.mem_map.1 hu
  rfl
set_option maxHeartbeats 4000000 in
set_option maxRecDepth 100000 in
theorem clone_any (v : Value) (t : List Int) (w : World) (h : Tx w v t) (hl : t.length ≤ 1000) :
    Calls Tryd.prog 92 #[v] w fun e w' => ∃ u, e = .returned u ∧ w'.ownsRow w.heap.size 3 1 u t.length (ints t) ∧ Below w.heap.size w w' := by
  obtain ⟨i0, hi, hz0, hz1, hz2⟩ := info_parts inf3
  obtain ⟨a, c, rfl, h⟩ := h
  rcases h with ⟨rfl, hv⟩ | ⟨b, off, cs, rfl, h2, h3⟩
  · rw [hv]
    have q1 := eql26n
    go_enter Tryd.func92, Tryd.ntmps92
    go_wp2
    go_ret
    exact ⟨_, rfl, World.ownsRow_nil _ _ _ _, Below.refl _ _⟩
  · have q1 := eql26 ⟨b, off, none⟩ t.length c
    have hb := below_al w (.cells #[] 3)
    have HB : Hid (Below w.heap.size w (w.alloc (.cells #[] 3))) := hb
    have HC : Hid (∀ j u, (ints t)[j]? = some u → (w.alloc (.cells #[] 3)).cell? ((⟨b, off, none⟩ : Addr).add j) = some u) := fun j u hu => by
      rw [show (⟨b, off, none⟩ : Addr).add j = ⟨b, off + j, none⟩ by simp [Addr.add]]
      exact (hb.cell (p := ⟨b, off + j, none⟩) (lt_at h2)).trans (h3 j u hu)
    have HR : Hid ((w.alloc (.cells #[] 3)).ownsRow w.heap.size 3 1 (.slice (some ⟨w.heap.size, 0, none⟩) 0 0) 0 []) := ⟨rfl, .inr ⟨w.heap.size, 0, #[], rfl, Nat.le_refl _, heap_alloc_new _ _, Nat.le_refl _, Nat.zero_le _, rfl, rfl⟩⟩
    clear hb h2 h3
    go_enter Tryd.func92, Tryd.ntmps92
    go_wp2_with (refine wpList_append_own_at _ rfl _ _ 26 rfl w.heap.size 3 i0 (.int .i64 0) 1 8 Tryd.underlying26 hi hz0 hz1 hz2 rfl (by decide) _ _ _ rfl HR.out ⟨b, off, none⟩ t.length c (ints t) rfl (by simp [ints]) HC.out (ints_all t) (by unfold maxLen; omega) (by omega) HB.out.size ?_; intro v1 w4 ho1 hg1 _ hl1; have HN : Hid (w4.ownsRow w.heap.size 3 1 v1 t.length (ints t) ∧ Below w.heap.size w w4) := ⟨by simpa using ho1, HB.out.grown hg1 HB.out.size (fun b hb => (HR.out.lt _ hb).1)⟩; rw [Nat.zero_add] at ho1; obtain ⟨gg, cc, rfl⟩ := oslice ho1; clear ho1 hg1 hl1)
    go_ret
    exact ⟨_, rfl, HN.out.1, HN.out.2⟩
open Classical in
/-- the symbols by which a start goes on, by what is left behind them -/
noncomputable def Bt (E : Int → Nat → Nat → Prop) (N : Nat → Nat) (left : Nat) (t : List Int) : List Nat := (List.range 61).filter fun c => decide (0 < c ∧ ∃ x, Wr E (t ++ [(c : Int)]) x ∧ N x ≤ left)
/-- what a search gathers from the nodes of a start -/
theorem gath {S : Nat} {tx : List Int} {A : List Arc} {F : List Nat} {N : Nat → Nat} {left M L : Nat} {X C : Nat → Bool} {G : Nat → Nat → Bool} {t : List Int} (hN : Nd (Eg S tx A) F M L N) (h : Sd S tx A N (left + 1) M X C [] G none []) (hX : ∀ x, X x = true ↔ Wr (Eg S tx A) t x ∧ N x ≤ left + 1) (hl : left + 1 ≤ L) (c x : Nat) : G c x = true ↔ 0 < c ∧ Wr (Eg S tx A) (t ++ [(c : Int)]) x ∧ N x ≤ left := by
  obtain ⟨h1, h2⟩ := h.fin
  have hC : ∀ u, C u = true ↔ Wv (Eg S tx A) t u ∧ N u ≤ left + 1 := fun u => by
    constructor
    · intro hu
      refine h.least (fun u => Wv (Eg S tx A) t u ∧ N u ≤ left + 1) (fun v hv => ⟨((hX v).1 hv).1.wv, ((hX v).1 hv).2⟩) (fun u v hu he hn => ?_) u hu
      obtain ⟨⟨n, hw⟩, _⟩ := hu
      exact ⟨⟨n + 1, .inl ⟨u, hw, he⟩⟩, hn⟩
    · rintro ⟨⟨n, hw⟩, hn⟩
      exact hN.clo hl (C := fun u => C u = true) (fun v hv hn => h.inX v ((hX v).2 ⟨hv, hn⟩)) h1 hw hn
  constructor
  · intro hx
    have h0 := (h.snd c x hx).1
    refine ⟨h0, ?_⟩
    obtain ⟨u, hu, he, hn⟩ := (h2 c x h0).1 hx
    have := (hN.more (t := t) (c := (c : Int)) (k := left) (v := x) (by omega) hl).2 ⟨u, (hC u).1 hu, he, by omega⟩
    exact this
  · rintro ⟨h0, hw⟩
    obtain ⟨u, hu, he, hn⟩ := (hN.more (t := t) (c := (c : Int)) (k := left) (v := x) (by omega) hl).1 hw
    exact (h2 c x h0).2 ⟨u, (hC u).2 hu, he, by omega⟩
open Classical in
theorem bt_of {S : Nat} {tx : List Int} {A : List Arc} {F : List Nat} {N : Nat → Nat} {left M L : Nat} {X C : Nat → Bool} {G : Gt} {t : List Int} {ks0 ks : List (Value × List Nat)} {bl : List (Nat × Nat)} (hN : Nd (Eg S tx A) F M L N) (h : Sd S tx A N (left + 1) M X C [] (mg G) none []) (hne : Ne G) (hX : ∀ x, X x = true ↔ Wr (Eg S tx A) t x ∧ N x ≤ left + 1) (hl : left + 1 ≤ L) (hb : Bq G ks0 ks bl 61) :
    bl.map Prod.fst = Bt (Eg S tx A) N left t ∧ ∀ p ∈ bl, ∃ q, ks[p.2]? = some q ∧ ∀ x, mem q.2 x = true ↔ Wr (Eg S tx A) (t ++ [(p.1 : Int)]) x ∧ N x ≤ left := by
  have hg := gath hN h hX hl
  refine ⟨?_, fun p hp => ?_⟩
  · rw [hb.cs]
    unfold Bt
    apply List.filter_congr
    intro c _
    rw [Bool.eq_iff_iff]
    constructor
    · intro hs
      refine decide_eq_true ?_
      obtain ⟨x, hx⟩ := hne c hs
      have := (hg c x).1 hx
      exact ⟨this.1, x, this.2⟩
    · intro hs
      obtain ⟨h0, x, hx⟩ := of_decide_eq_true hs
      have := (hg c x).2 ⟨h0, hx⟩
      unfold mg at this
      cases hgc : G c with
      | none => rw [hgc] at this; cases this
      | some q => rfl
  · obtain ⟨q, q', h1, h2, h3⟩ := hb.at_ p hp
    refine ⟨q, h1, fun x => ?_⟩
    have h4 := hg p.1 x
    have h5 : mg G p.1 x = mem q.2 x := by unfold mg; rw [h2, h3]
    rw [← h5, h4]
    have h0 : 0 < p.1 := by
      obtain ⟨y, hy⟩ := hne p.1 (by rw [h2]; rfl)
      exact (h.snd p.1 y hy).1
    exact ⟨fun h => h.2, fun h => ⟨h0, h⟩⟩
end Go.Proofs.YtfjocafepigijaaDoor.Ot
/- longer (64): what lies between two starts, in plain words and in memory. No conditions. -/
namespace Go.Proofs.YtfjocafepigijaaDoor.Ot
open Go.RowKit Mv Sy Po Ps Cm Pa Am Wd St Ra Set

/-- the starts and their sets, in plain words -/
def Sem (E : Int → Nat → Nat → Prop) (N : Nat → Nat) (left : Nat) (T : List (List Int × Nat)) (ks : List (Value × List Nat)) : Prop := ∀ p ∈ T, ∃ q, ks[p.2]? = some q ∧ ∀ x, mem q.2 x = true ↔ Wr E p.1 x ∧ N x ≤ left
theorem Sem.mono {E : Int → Nat → Nat → Prop} {N : Nat → Nat} {left : Nat} {T : List (List Int × Nat)} {ks ks' : List (Value × List Nat)} (h : Sem E N left T ks) (hp : ks <+: ks') : Sem E N left T ks' := fun p hp2 => by
  obtain ⟨q, h1, h2⟩ := h p hp2
  obtain ⟨r, rfl⟩ := hp
  exact ⟨q, by rw [List.getElem?_append_left (List.getElem?_eq_some_iff.1 h1).1]; exact h1, h2⟩
/-- texts of starts -/
def Txs (w : World) (sts : List (Value × Nat)) (T : List (List Int × Nat)) : Prop := sts.length = T.length ∧ ∀ (m : Nat) (v : Value) (k : Nat), sts[m]? = some (v, k) → ∃ t : List Int, T[m]? = some (t, k) ∧ Tx w v t
theorem Txs.kept {w w' : World} {sts : List (Value × Nat)} {T : List (List Int × Nat)} {X : Nat → Prop} (h : Txs w sts T) (hk : Kp X w w') (hX : ∀ b cs, w.heap[b]? = some (.cells cs 3 (0, 0)) → ¬ X b) : Txs w' sts T := ⟨h.1, fun m v k hm => by
  obtain ⟨t, h1, h2⟩ := h.2 m v k hm
  exact ⟨t, h1, h2.kept hk hX⟩⟩
theorem Txs.add {w : World} {sts : List (Value × Nat)} {T : List (List Int × Nat)} {v : Value} {t : List Int} {k : Nat} (h : Txs w sts T) (ht : Tx w v t) : Txs w (sts ++ [(v, k)]) (T ++ [(t, k)]) := by
  refine ⟨by simp [h.1], fun m v' k' hm => ?_⟩
  rcases Nat.lt_or_ge m sts.length with hlt | hge
  · rw [List.getElem?_append_left hlt] at hm
    obtain ⟨t', h1, h2⟩ := h.2 m v' k' hm
    exact ⟨t', by rw [List.getElem?_append_left (by rw [← h.1]; exact hlt)]; exact h1, h2⟩
  · have hl := (List.getElem?_eq_some_iff.1 hm).1
    simp at hl
    obtain rfl : m = sts.length := by omega
    rw [List.getElem?_append_right (Nat.le_refl _)] at hm
    simp at hm
    obtain ⟨rfl, rfl⟩ := hm
    exact ⟨t, by rw [h.1]; simp, ht⟩
/-- what a branch list says, for all starts of its set -/
def BrP (E : Int → Nat → Nat → Prop) (N : Nat → Nat) (left : Nat) (T : List (List Int × Nat)) (ks : List (Value × List Nat)) (j : Nat) (bl : List (Nat × Nat)) : Prop :=
  ∀ t, (t, j) ∈ T → bl.map Prod.fst = Bt E N left t ∧ ∀ p ∈ bl, ∃ q, ks[p.2]? = some q ∧ ∀ x, mem q.2 x = true ↔ Wr E (t ++ [(p.1 : Int)]) x ∧ N x ≤ left
theorem BrP.mono {E : Int → Nat → Nat → Prop} {N : Nat → Nat} {left : Nat} {T : List (List Int × Nat)} {ks ks' : List (Value × List Nat)} {j : Nat} {bl : List (Nat × Nat)} (h : BrP E N left T ks j bl) (hp : ks <+: ks') : BrP E N left T ks' j bl := fun t ht => ⟨(h t ht).1, fun p hp2 => by
  obtain ⟨q, h1, h2⟩ := (h t ht).2 p hp2
  obtain ⟨r, rfl⟩ := hp
  exact ⟨q, by rw [List.getElem?_append_left (List.getElem?_eq_some_iff.1 h1).1]; exact h1, h2⟩⟩
/-- how all lies: w the world in which longer began; n sets of the front that is left -/
structure Ls (b1 : Nat) (w wr : World) (ksN : List (Value × List Nat)) (f mb bb n M : Nat) (vs vk ve : Value) (sts : List (Value × Nat)) (ks : List (Value × List Nat)) (es : List Bool) (Gm : ByteArray → Option Nat) (N : Nat → Nat) (vals : List Value) (br : Nat → Option (List (Nat × Nat))) : Prop where
  fr : Fr w.heap.size wr f vs vk ve sts ks es M
  es : es = ks.map fun p => en N p.2
  mp : IsSm wr mb ks.length Gm
  mge : w.heap.size ≤ mb
  met : Met ks Gm
  brow : wr.ownsRow w.heap.size 175 1 (.slice (some ⟨bb, 0, none⟩) n n) n vals
  vlen : vals.length = n
  vnil : ∀ j, j < n → br j = none → vals[j]? = some (.slice none 0 0)
  vbr : ∀ j bl, br j = some bl → ∃ a m, vals[j]? = some (.slice (some a) bl.length m) ∧ wr.ownsRow w.heap.size 178 2 (.slice (some a) bl.length m) bl.length (brc bl)
  sets : ∀ j p, ksN[j]? = some p → br j = none → IsSet wr b1 p.1 M p.2
  kp : Kp (fun b => ∃ p ∈ ksN, p.1.ownBlock = some b) w wr
section
variable {b1 : Nat} {w wr w1 w2 : World} {ksN : List (Value × List Nat)} {f mb bb n M : Nat} {vs vk ve : Value} {sts : List (Value × Nat)} {ks : List (Value × List Nat)} {es : List Bool} {Gm : ByteArray → Option Nat} {N : Nat → Nat} {vals : List Value} {br : Nat → Option (List (Nat × Nat))}
theorem Ls.kept {X : Nat → Prop} (h : Ls b1 w wr ksN f mb bb n M vs vk ve sts ks es Gm N vals br) (hk : Kp X wr w1) (hF : ∀ b, X b → ¬ FrX f vs vk ve ks b) (hm : ¬ X mb) (hb : ∀ b c ty, X b → wr.heap[b]? = some (.cells c ty (0, 0)) → ty ≠ 175 ∧ ty ≠ 178) (hs : ∀ j p b, ksN[j]? = some p → br j = none → p.1.ownBlock = some b → ¬ X b) (hX : ∀ b, b < w.heap.size → X b → ∃ p ∈ ksN, p.1.ownBlock = some b) : Ls b1 w w1 ksN f mb bb n M vs vk ve sts ks es Gm N vals br := by
  refine ⟨h.fr.kept hk hF, h.es, h.mp.kept (hk.block mb h.mp.lt hm), h.mge, h.met, own_kp2 h.brow hk (fun b hb1 e => ?_), h.vlen, h.vnil, fun j bl hj => ?_, fun j p hp hn => ⟨own_kp2 (h.sets j p hp hn).1 hk (fun b hb1 e => hs j p b hp hn hb1 e), (h.sets j p hp hn).2⟩, kp_then h.kp hk (fun i hi e => hX i hi e)⟩
  · obtain ⟨d, hd⟩ := own_ty h.brow hb1
    exact (hb b _ _ e hd).1 rfl
  · obtain ⟨a, m, e1, e2⟩ := h.vbr j bl hj
    refine ⟨a, m, e1, own_kp2 e2 hk (fun b hb1 e => ?_)⟩
    obtain ⟨d, hd⟩ := own_ty e2 hb1
    exact (hb b _ _ e hd).2 rfl
theorem Ls.below (h : Ls b1 w wr ksN f mb bb n M vs vk ve sts ks es Gm N vals br) (hb : Below wr.heap.size wr w1) : Ls b1 w w1 ksN f mb bb n M vs vk ve sts ks es Gm N vals br :=
  h.kept (kp_below hb (fun _ => False)) (fun _ e => e.elim) id (fun _ _ _ e => e.elim) (fun _ _ _ _ _ _ => id) (fun _ _ e => e.elim)
def upb (br : Nat → Option (List (Nat × Nat))) (j : Nat) (bl : List (Nat × Nat)) : Nat → Option (List (Nat × Nat)) := fun i => if i = j then some bl else br i
theorem Ls.nt {pN : Value × List Nat} {j : Nat} (h : Ls b1 w wr ksN f mb bb n M vs vk ve sts ks es Gm N vals br) (hp : ksN[j]? = some pN) (hn : br j = none) {b : Nat} {c : Array Value} {ty : TypeId} (hb : wr.heap[b]? = some (.cells c ty (0, 0))) (h1 : ty ≠ 136) (h2 : ty ≠ 122) (h3 : ty ≠ 77) (h4 : ty ≠ 4) : ¬ (pN.1.ownBlock = some b ∨ b = f ∨ b = mb ∨ vk.ownBlock = some b ∨ ve.ownBlock = some b) := fun e => by
  rcases e with e | e | e | e | e
  · obtain ⟨d, hd⟩ := own_ty (h.sets j pN hp hn).1 e; exact ty_ne hb hd h1
  · subst e; exact ty_ne hb h.fr.row h2
  · subst e; obtain ⟨me, mc, hm⟩ := h.mp.ty; rw [hm] at hb; cases hb
  · obtain ⟨d, hd⟩ := own_ty h.fr.sets e; exact ty_ne hb hd h3
  · obtain ⟨d, hd⟩ := own_ty h.fr.ends e; exact ty_ne hb hd h4
theorem Ls.branch {pN : Value × List Nat} {j nm m : Nat} {vk' ve' : Value} {ks' : List (Value × List Nat)} {es' : List Bool} {Gm' : ByteArray → Option Nat} {G : Gt} {bl : List (Nat × Nat)} {a : Addr} {T : List (List Int × Nat)} (h : Ls b1 w wr ksN f mb bb n M vs vk ve sts ks es Gm N vals br) (hp : ksN[j]? = some pN) (hn : br j = none) (hj : j < n)
    (hlt : ∀ p ∈ ksN, ∀ b, p.1.ownBlock = some b → b < w.heap.size) (hap : ∀ (i i' : Nat) (p q : Value × List Nat), i ≠ i' → ksN[i]? = some p → ksN[i']? = some q → ∀ b, p.1.ownBlock = some b → q.1.ownBlock ≠ some b)
    (hb : Bw w.heap.size wr w1 f mb nm M 61 pN.1 vs vk' ve' vk ve sts ks' es' Gm' G N bl (.slice (some a) bl.length m)) (hnm : nm = ks'.length) (ht : Txs wr sts T) :
    (w1.cell? ⟨bb, j, none⟩ = some (.slice none 0 0) ∧ w1.frozen? ⟨bb, j, none⟩ = false) ∧ Ls b1 w (w1.setCell ⟨bb, j, none⟩ (.slice (some a) bl.length m)) ksN f mb bb n M vs vk' ve' sts ks' es' Gm' N (vals.set j (.slice (some a) bl.length m)) (upb br j bl) ∧ Txs (w1.setCell ⟨bb, j, none⟩ (.slice (some a) bl.length m)) sts T ∧ Kp (fun b => pN.1.ownBlock = some b ∨ b = f ∨ b = mb ∨ vk.ownBlock = some b ∨ ve.ownBlock = some b ∨ b = bb) wr (w1.setCell ⟨bb, j, none⟩ (.slice (some a) bl.length m)) := by
  have hk := hb.kp
  have nt := fun {b : Nat} {c : Array Value} {ty : TypeId} (hb : wr.heap[b]? = some (.cells c ty (0, 0))) h1 h2 h3 h4 => h.nt hp hn hb h1 h2 h3 h4
  have brow1 : w1.ownsRow w.heap.size 175 1 (.slice (some ⟨bb, 0, none⟩) n n) n vals := own_kp2 h.brow hk (fun b hb1 => by obtain ⟨d, hd⟩ := own_ty h.brow hb1; exact nt hd (by decide) (by decide) (by decide) (by decide))
  obtain ⟨cb, hcb⟩ := own_ty brow1 (k := bb) rfl
  have hk2 : Kp (fun b => b = bb) w1 (w1.setCell ⟨bb, j, none⟩ (.slice (some a) bl.length m)) := (Kp.refl _ w1).setCell _ _ _ (fun _ => rfl)
  have n2 : ∀ {b : Nat} {c : Array Value} {ty : TypeId}, w1.heap[b]? = some (.cells c ty (0, 0)) → ty ≠ 175 → ¬ b = bb := fun hb h1 e => by subst e; exact ty_ne hb hcb h1
  have hst := (brow1.stored j (.slice (some a) bl.length m)).1
  have hpm : pN ∈ ksN := List.mem_of_getElem? hp
  refine ⟨⟨(brow1.cellAt j (by omega)).trans (h.vnil j hj hn), brow1.frozenAt j⟩, ⟨hb.fr.kept hk2 (fun b e1 e2 => ?_), hb.es, ?_, h.mge, hb.met, hst, by rw [List.length_set]; exact h.vlen, fun i hi hbr => ?_, fun i bl' hbr => ?_, fun i p hpi hbr => ?_, kp_then (kp_then h.kp hk (fun i hi e => ?_)) hk2 (fun i hi e => ?_)⟩, (ht.kept hk (fun b cs hb1 => nt hb1 (by decide) (by decide) (by decide) (by decide))).kept hk2 (fun b cs hb1 => n2 hb1 (by decide)), kp_then (hk.mono (fun b _ e => ?_)) hk2 (fun i _ e => .inr (.inr (.inr (.inr (.inr e)))))⟩
  · obtain ⟨_, c, ty, hc, ht⟩ := hb.fr.X e2
    refine n2 hc ?_ e1
    rcases ht with rfl | rfl | rfl | rfl | rfl <;> decide
  · rw [← hnm]
    exact hb.mp.kept (hk2.block mb hb.mp.lt (fun e => by obtain ⟨me, mc, hm⟩ := hb.mp.ty; rw [e, hcb] at hm; cases hm))
  · unfold upb at hbr
    split at hbr
    · cases hbr
    · rename_i hne
      rw [List.getElem?_set_ne (fun e => hne e.symm)]
      exact h.vnil i hi hbr
  · unfold upb at hbr
    split at hbr
    · rename_i e
      cases hbr
      subst e
      exact ⟨a, m, by rw [List.getElem?_set_self (by rw [h.vlen]; exact hj)], own_kp2 (own_low hb.row h.kp.size) hk2 (fun b hb1 => by obtain ⟨d, hd⟩ := own_ty hb.row hb1; exact n2 hd (by decide))⟩
    · rename_i hne
      obtain ⟨a', m', e1, e2⟩ := h.vbr i bl' hbr
      have e3 : w1.ownsRow w.heap.size 178 2 (.slice (some a') bl'.length m') bl'.length (brc bl') := own_kp2 e2 hk (fun b hb1 => by obtain ⟨d, hd⟩ := own_ty e2 hb1; exact nt hd (by decide) (by decide) (by decide) (by decide))
      exact ⟨a', m', by rw [List.getElem?_set_ne (fun e => hne e.symm)]; exact e1, own_kp2 e3 hk2 (fun b hb1 => by obtain ⟨d, hd⟩ := own_ty e3 hb1; exact n2 hd (by decide))⟩
  · unfold upb at hbr
    split at hbr
    · cases hbr
    · rename_i hne
      have hs := h.sets i p hpi hbr
      have hs1 : w1.ownsRow b1 136 1 p.1 p.2.length (cellsW p.2) := own_kp2 hs.1 hk (fun b hb1 e => by
        have hl := hlt p (List.mem_of_getElem? hpi) b hb1
        rcases e with e | e | e | e | e
        · exact hap i j p pN hne hpi hp b hb1 e
        · have := h.fr.fge; omega
        · have := h.mge; omega
        · have := (h.fr.sets.lt _ e).1; omega
        · have := (h.fr.ends.lt _ e).1; omega)
      exact ⟨own_kp2 hs1 hk2 (fun b hb1 => by obtain ⟨d, hd⟩ := own_ty hs1 hb1; exact n2 hd (by decide)), hs.2⟩
  · rcases e with e | e | e | e | e
    · exact ⟨pN, hpm, e⟩
    · have := h.fr.fge; omega
    · have := h.mge; omega
    · have := (h.fr.sets.lt _ e).1; omega
    · have := (h.fr.ends.lt _ e).1; omega
  · have := (brow1.lt bb rfl).1; omega
  · rcases e with e | e | e | e | e
    · exact .inl e
    · exact .inr (.inl e)
    · exact .inr (.inr (.inl e))
    · exact .inr (.inr (.inr (.inl e)))
    · exact .inr (.inr (.inr (.inr (.inl e))))
/-- a start more -/
theorem Ls.start {v' tv : Value} {k : Nat} {t : List Int} {T : List (List Int × Nat)} (h : Ls b1 w wr ksN f mb bb n M vs vk ve sts ks es Gm N vals br) (ho : w1.ownsRow w.heap.size 125 2 v' (sts.length + 1) (stc sts ++ [tv, .int .i64 ((k : Nat) : Int)])) (hg : wr.grownBy w1 vs.ownBlock) (ht : Txs wr sts T) (htv : Tx wr tv t)
    (hlt : ∀ p ∈ ksN, ∀ b, p.1.ownBlock = some b → b < w.heap.size) :
    Ls b1 w (w1.setCell ⟨f, 0, none⟩ v') ksN f mb bb n M v' vk ve (sts ++ [(tv, k)]) ks es Gm N vals br ∧ Txs (w1.setCell ⟨f, 0, none⟩ v') (sts ++ [(tv, k)]) (T ++ [(t, k)]) ∧ Kp (fun b => b = f ∨ vs.ownBlock = some b) wr (w1.setCell ⟨f, 0, none⟩ v') := by
  obtain ⟨hfr, hk⟩ := h.fr.addStart ho hg
  have nt : ∀ {b : Nat} {c : Array Value} {ty : TypeId}, wr.heap[b]? = some (.cells c ty (0, 0)) → ty ≠ 122 → ty ≠ 125 → ¬ (b = f ∨ vs.ownBlock = some b) := fun {b c ty} hb h1 h2 e => by
    rcases e with e | e
    · subst e; exact ty_ne hb h.fr.row h1
    · obtain ⟨d, hd⟩ := own_ty h.fr.starts e; exact ty_ne hb hd h2
  have ge : ∀ b, (b = f ∨ vs.ownBlock = some b) → w.heap.size ≤ b := fun b e => by
    rcases e with e | e
    · rw [e]; exact h.fr.fge
    · exact (h.fr.starts.lt _ e).1
  refine ⟨⟨hfr, h.es, h.mp.kept (hk.block mb h.mp.lt (fun e => ?_)), h.mge, h.met, own_kp2 h.brow hk (fun b hb1 => by obtain ⟨d, hd⟩ := own_ty h.brow hb1; exact nt hd (by decide) (by decide)), h.vlen, h.vnil, fun i bl' hbr => ?_, fun i p hpi hbr => ⟨own_kp2 (h.sets i p hpi hbr).1 hk (fun b hb1 e => by have := hlt p (List.mem_of_getElem? hpi) b hb1; have := ge b e; omega), (h.sets i p hpi hbr).2⟩, kp_then h.kp hk (fun i hi e => absurd (ge i e) (Nat.not_le.2 hi))⟩, (ht.kept hk (fun b cs hb1 => nt hb1 (by decide) (by decide))).add (htv.kept hk (fun b cs hb1 => nt hb1 (by decide) (by decide))), hk⟩
  · obtain ⟨me, mc, hm⟩ := h.mp.ty
    rcases e with e | e
    · rw [e, h.fr.row] at hm; cases hm
    · obtain ⟨d, hd⟩ := own_ty h.fr.starts e; rw [hm] at hd; cases hd
  · obtain ⟨a', m', e1, e2⟩ := h.vbr i bl' hbr
    exact ⟨a', m', e1, own_kp2 e2 hk (fun b hb1 => by obtain ⟨d, hd⟩ := own_ty e2 hb1; exact nt hd (by decide) (by decide))⟩
end
end Go.Proofs.YtfjocafepigijaaDoor.Ot
