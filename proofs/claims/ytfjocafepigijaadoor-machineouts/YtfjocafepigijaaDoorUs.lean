/- Texts of starts: how one lies; Clone (92); what a branch list must be, in plain words. Conditions: texts of at most 1000 symbols. -/
import Derived.Test.YtfjocafepigijaaDoorUr
namespace Go.Proofs.YtfjocafepigijaaDoor.Ot
open Go.RowKit Mv Sy Po Ps Cm Pa Am Wd St Ra Set

/-- a text lies in a block of numbers -/
def Tx (w : World) (v : Value) (t : List Int) : Prop := ∃ a c, v = .slice a t.length c ∧ ((t = [] ∧ v = .slice none 0 0) ∨ ∃ b off cs, a = some ⟨b, off, none⟩ ∧ w.heap[b]? = some (.cells cs 3 (0, 0)) ∧ ∀ j u, (ints t)[j]? = some u → w.cell? ⟨b, off + j, none⟩ = some u)
theorem Tx.kept {w w' : World} {v : Value} {t : List Int} {X : Nat → Prop} (h : Tx w v t) (hk : Kp X w w') (hX : ∀ b cs, w.heap[b]? = some (.cells cs 3 (0, 0)) → ¬ X b) : Tx w' v t := by
  obtain ⟨a, c, hv, h⟩ := h
  refine ⟨a, c, hv, h.imp id ?_⟩
  rintro ⟨b, off, cs, h1, h2, h3⟩
  exact ⟨b, off, cs, h1, (hk.block b (lt_at h2) (hX b cs h2)).trans h2, fun j u hu => (hk.cell (lt_at h2) (hX b cs h2)).trans (h3 j u hu)⟩
theorem Tx.below {w w' : World} {v : Value} {t : List Int} (h : Tx w v t) (hb : Below w.heap.size w w') : Tx w' v t := h.kept (kp_below hb (fun _ => False)) (fun _ _ _ => id)
theorem Tx.own {w : World} {base : Nat} {v : Value} {t : List Int} (h : w.ownsRow base 3 1 v t.length (ints t)) (h0 : 0 < t.length) : Tx w v t := by
  obtain ⟨g, cap, rfl, _, _⟩ := own_some h h0
  obtain ⟨cs, hcs⟩ := own_ty h (k := g) rfl
  refine ⟨_, _, rfl, .inr ⟨g, 0, cs, rfl, hcs, fun j u hu => ?_⟩⟩
  have hj : j < t.length := by have := (List.getElem?_eq_some_iff.1 hu).1; simpa [ints] using this
  rw [Nat.zero_add]
  exact (h.cellAt j (by omega)).trans hu
theorem Tx.row {w : World} {v : Value} {t : List Int} (h : Tx w v t) (hl : t.length ≤ 1000) : Mv.Row w v 1 t.length (ints t) := by
  obtain ⟨a, c, rfl, h⟩ := h
  refine ⟨by simp [ints], a, c, rfl, by omega, ?_⟩
  rcases h with ⟨h, _⟩ | ⟨b, off, cs, h1, h2, h3⟩
  · exact .inl (by rw [h]; rfl)
  · exact .inr ⟨b, off, h1, lt_at h2, h3⟩
theorem eql26 (a : Addr) (n c : Nat) (W : World) : Sem.run Tryd.prog (binOp BinOp.eql 26 (.slice (some a) n c) (.slice none 0 0)) W = .ok (.bool false) W := by kernel_rfl
theorem eql26n (W : World) : Sem.run Tryd.prog (binOp BinOp.eql 26 (.slice none 0 0) (.slice none 0 0)) W = .ok (.bool true) W := by kernel_rfl
theorem eql175 (a : Addr) (n c : Nat) (W : World) : Sem.run Tryd.prog (binOp BinOp.eql 175 (.slice (some a) n c) (.slice none 0 0)) W = .ok (.bool false) W := by kernel_rfl
theorem eql175n (W : World) : Sem.run Tryd.prog (binOp BinOp.eql 175 (.slice none 0 0) (.slice none 0 0)) W = .ok (.bool true) W := by kernel_rfl
theorem ints_all (t : List Int) : ∀ u ∈ ints t, u.oneCell' = true := by
  intro u hu
  obtain ⟨x, _, rfl⟩ := List.mem_map.1 hu
  rfl
set_option maxHeartbeats 4000000 in
set_option maxRecDepth 100000 in
theorem clone_any (v : Value) (t : List Int) (w : World) (h : Tx w v t) (hl : t.length ≤ 1000) :
    Calls Tryd.prog 92 #[v] w fun e w' => ∃ u, e = .returned u ∧ w'.ownsRow w.heap.size 3 1 u t.length (ints t) ∧ Below w.heap.size w w' := by
  obtain ⟨i0, hi, hz0, hz1, hz2⟩ := info_parts inf3
  obtain ⟨a, c, rfl, h⟩ := h
  rcases h with ⟨rfl, hv⟩ | ⟨b, off, cs, rfl, h2, h3⟩
  · rw [hv]
    have q1 := eql26n
    go_enter Tryd.func92, Tryd.ntmps92
    go_wp2
    go_ret
    exact ⟨_, rfl, World.ownsRow_nil _ _ _ _, Below.refl _ _⟩
  · have q1 := eql26 ⟨b, off, none⟩ t.length c
    have hb := below_al w (.cells #[] 3)
    have HB : Hid (Below w.heap.size w (w.alloc (.cells #[] 3))) := hb
    have HC : Hid (∀ j u, (ints t)[j]? = some u → (w.alloc (.cells #[] 3)).cell? ((⟨b, off, none⟩ : Addr).add j) = some u) := fun j u hu => by
      rw [show (⟨b, off, none⟩ : Addr).add j = ⟨b, off + j, none⟩ by simp [Addr.add]]
      exact (hb.cell (p := ⟨b, off + j, none⟩) (lt_at h2)).trans (h3 j u hu)
    have HR : Hid ((w.alloc (.cells #[] 3)).ownsRow w.heap.size 3 1 (.slice (some ⟨w.heap.size, 0, none⟩) 0 0) 0 []) := ⟨rfl, .inr ⟨w.heap.size, 0, #[], rfl, Nat.le_refl _, heap_alloc_new _ _, Nat.le_refl _, Nat.zero_le _, rfl, rfl⟩⟩
    clear hb h2 h3
    go_enter Tryd.func92, Tryd.ntmps92
    go_wp2_with (refine wpList_append_own_at _ rfl _ _ 26 rfl w.heap.size 3 i0 (.int .i64 0) 1 8 Tryd.underlying26 hi hz0 hz1 hz2 rfl (by decide) _ _ _ rfl HR.out ⟨b, off, none⟩ t.length c (ints t) rfl (by simp [ints]) HC.out (ints_all t) (by unfold maxLen; omega) (by omega) HB.out.size ?_; intro v1 w4 ho1 hg1 _ hl1; have HN : Hid (w4.ownsRow w.heap.size 3 1 v1 t.length (ints t) ∧ Below w.heap.size w w4) := ⟨by simpa using ho1, HB.out.grown hg1 HB.out.size (fun b hb => (HR.out.lt _ hb).1)⟩; rw [Nat.zero_add] at ho1; obtain ⟨gg, cc, rfl⟩ := oslice ho1; clear ho1 hg1 hl1)
    go_ret
    exact ⟨_, rfl, HN.out.1, HN.out.2⟩
open Classical in
/-- the symbols by which a start goes on, by what is left behind them -/
noncomputable def Bt (E : Int → Nat → Nat → Prop) (N : Nat → Nat) (left : Nat) (t : List Int) : List Nat := (List.range 61).filter fun c => decide (0 < c ∧ ∃ x, Wr E (t ++ [(c : Int)]) x ∧ N x ≤ left)
/-- what a search gathers from the nodes of a start -/
theorem gath {S : Nat} {tx : List Int} {A : List Arc} {F : List Nat} {N : Nat → Nat} {left M L : Nat} {X C : Nat → Bool} {G : Nat → Nat → Bool} {t : List Int} (hN : Nd (Eg S tx A) F M L N) (h : Sd S tx A N (left + 1) M X C [] G none []) (hX : ∀ x, X x = true ↔ Wr (Eg S tx A) t x ∧ N x ≤ left + 1) (hl : left + 1 ≤ L) (c x : Nat) : G c x = true ↔ 0 < c ∧ Wr (Eg S tx A) (t ++ [(c : Int)]) x ∧ N x ≤ left := by
  obtain ⟨h1, h2⟩ := h.fin
  have hC : ∀ u, C u = true ↔ Wv (Eg S tx A) t u ∧ N u ≤ left + 1 := fun u => by
    constructor
    · intro hu
      refine h.least (fun u => Wv (Eg S tx A) t u ∧ N u ≤ left + 1) (fun v hv => ⟨((hX v).1 hv).1.wv, ((hX v).1 hv).2⟩) (fun u v hu he hn => ?_) u hu
      obtain ⟨⟨n, hw⟩, _⟩ := hu
      exact ⟨⟨n + 1, .inl ⟨u, hw, he⟩⟩, hn⟩
    · rintro ⟨⟨n, hw⟩, hn⟩
      exact hN.clo hl (C := fun u => C u = true) (fun v hv hn => h.inX v ((hX v).2 ⟨hv, hn⟩)) h1 hw hn
  constructor
  · intro hx
    have h0 := (h.snd c x hx).1
    refine ⟨h0, ?_⟩
    obtain ⟨u, hu, he, hn⟩ := (h2 c x h0).1 hx
    have := (hN.more (t := t) (c := (c : Int)) (k := left) (v := x) (by omega) hl).2 ⟨u, (hC u).1 hu, he, by omega⟩
    exact this
  · rintro ⟨h0, hw⟩
    obtain ⟨u, hu, he, hn⟩ := (hN.more (t := t) (c := (c : Int)) (k := left) (v := x) (by omega) hl).1 hw
    exact (h2 c x h0).2 ⟨u, (hC u).2 hu, he, by omega⟩
open Classical in
theorem bt_of {S : Nat} {tx : List Int} {A : List Arc} {F : List Nat} {N : Nat → Nat} {left M L : Nat} {X C : Nat → Bool} {G : Gt} {t : List Int} {ks0 ks : List (Value × List Nat)} {bl : List (Nat × Nat)} (hN : Nd (Eg S tx A) F M L N) (h : Sd S tx A N (left + 1) M X C [] (mg G) none []) (hne : Ne G) (hX : ∀ x, X x = true ↔ Wr (Eg S tx A) t x ∧ N x ≤ left + 1) (hl : left + 1 ≤ L) (hb : Bq G ks0 ks bl 61) :
    bl.map Prod.fst = Bt (Eg S tx A) N left t ∧ ∀ p ∈ bl, ∃ q, ks[p.2]? = some q ∧ ∀ x, mem q.2 x = true ↔ Wr (Eg S tx A) (t ++ [(p.1 : Int)]) x ∧ N x ≤ left := by
  have hg := gath hN h hX hl
  refine ⟨?_, fun p hp => ?_⟩
  · rw [hb.cs]
    unfold Bt
    apply List.filter_congr
    intro c _
    rw [Bool.eq_iff_iff]
    constructor
    · intro hs
      refine decide_eq_true ?_
      obtain ⟨x, hx⟩ := hne c hs
      have := (hg c x).1 hx
      exact ⟨this.1, x, this.2⟩
    · intro hs
      obtain ⟨h0, x, hx⟩ := of_decide_eq_true hs
      have := (hg c x).2 ⟨h0, hx⟩
      unfold mg at this
      cases hgc : G c with
      | none => rw [hgc] at this; cases this
      | some q => rfl
  · obtain ⟨q, q', h1, h2, h3⟩ := hb.at_ p hp
    refine ⟨q, h1, fun x => ?_⟩
    have h4 := hg p.1 x
    have h5 : mg G p.1 x = mem q.2 x := by unfold mg; rw [h2, h3]
    rw [← h5, h4]
    have h0 : 0 < p.1 := by
      obtain ⟨y, hy⟩ := hne p.1 (by rw [h2]; rfl)
      exact (h.snd p.1 y hy).1
    exact ⟨fun h => h.2, fun h => ⟨h0, h⟩⟩
end Go.Proofs.YtfjocafepigijaaDoor.Ot
