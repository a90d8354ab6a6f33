/- One list more is on the way: what an append onto the way leaves. Conditions: those of the law of append. -/
import Derived.Test.YtmhgoddlbklbfaaLg
import Derived.Deep.RegionLaw
import Derived.Maps.AppendAt
namespace Go.Proofs.Ytmhgoddlbklbfaa.Lb
open Go.RowKit Ta Tb Ra
variable {w w4 W5 W6 : World} {N : Nat} {Wh : Nat → Int} {F : Fix} {es : Nat → List Sl} {rs : Nat → List En} {LL : Nat → List (List To)} {A : Nat → Prop}

theorem step_append_at {P : Program} {ops : Array Oper} {o : Oper} {a : Act} {w : World} {K : Act → World → Prop} {Q : Exit → Act → World → Prop} {E : Prop}
    (hgd : o.guard = none) (s x : Operand) (t : TypeId) (ho : o.op = .call { callee := .builtin .append, args := #[s, x], argTypes := #[t, t] })
    (base : Nat) (e : TypeId) (i : TypeInfo) (z : Value) (size bytes : Nat) (ht : P.underlying t = some (.slice e)) (hi : P.info? e = some i) (hz : i.zero = some z)
    (hsize : i.size = size) (hby : i.bytes = bytes) (hzs : z.cells.size = size) (hsz : 0 < size)
    (v : Value) (n : Nat) (xs : List Value) (hs : a.eval s = v) (hown : w.ownsRow base e size v n xs)
    (ad : Addr) (m c : Nat) (news : List Value) (hx : a.eval x = .slice (some ad) m c) (hl : news.length = m * size) (hnews : ∀ j u, news[j]? = some u → w.cell? (ad.add j) = some u) (h1 : ∀ u ∈ news, u.oneCell' = true)
    (h63 : n + m ≤ maxLen) (hbytes : (n + m) * bytes ≤ 140737488355328) (hbase : base ≤ w.heap.size)
    (h : ∀ v' w', w'.ownsRow base e size v' (n + m) (xs ++ news) → w.grownBy w' v.ownBlock → (v'.ownBlock = v.ownBlock ∨ v'.ownBlock = some w.heap.size) → K (a.put o.dst v') w') :
    if Region.wanted o (yielded ops a.tmps) = true then Oper.wp P o a w K Q else E := by
  have hw : Region.wanted o (yielded ops a.tmps) = true := by simp [Region.wanted, hgd]
  rw [if_pos hw]
  obtain ⟨v', w', hr, h2, h3, h4, h5⟩ := run_append_own_at (P := P) w base t o.type e i z size bytes ht hi hz hsize hby hzs hsz v n xs hown ad m c news hl hnews h1 h63 hbytes hbase
  unfold Oper.wp execOp
  simp only [ho, resolve, invoke, builtin, Sem.run_bind, Sem.run_pure, Result.andThen_ok, List.map_toArray, List.map_cons, List.map_nil, hs, hx, hr]
  exact h v' w' h2 h3 h5
theorem copy_own' {w w' : World} {v' : Value} {l : List To} (h : w'.ownsRow w.heap.size 44 5 v' (0 + l.length) ([] ++ tls l)) (hg : (w.alloc (.cells #[] 44)).drew.grownBy w' (Value.slice (some ⟨w.heap.size, 0, none⟩) 0 0).ownBlock) (hl : l.length ≤ 140737488355328) : ∃ a c, v' = .slice a l.length c ∧ w'.ownsRow w.heap.size 44 5 (.slice a l.length c) l.length (tls l) ∧ IsT w' a l ∧ Below w.heap.size w w' := by
  rw [Nat.zero_add, List.nil_append] at h
  have h0 := h
  obtain ⟨a, c, rfl, hi, _⟩ := isT_own h0 hl
  exact ⟨a, c, rfl, h, hi, ((Below.refl _ w).alloc (Nat.le_refl _) _).drew.grown hg (by simp) (fun q hq => by cases hq; exact Nat.le_refl _)⟩
theorem own_base' {w : World} {b b' e size : Nat} {v : Value} {n : Nat} {xs : List Value} (h : w.ownsRow b e size v n xs) (hb : b' ≤ b) : w.ownsRow b' e size v n xs := by
  obtain ⟨h1, h | ⟨g, cap, cur, hv, hg, hr⟩⟩ := h
  · exact ⟨h1, .inl h⟩
  · exact ⟨h1, .inr ⟨g, cap, cur, hv, by omega, hr⟩⟩
theorem slice_of1 {w : World} {base e size : Nat} {v : Value} {n : Nat} {xs : List Value} (h : w.ownsRow base e size v (n + 1) xs) : ∃ g k, v = .slice (some ⟨g, 0, none⟩) (n + 1) k ∧ base ≤ g := by
  rcases h.2 with ⟨_, h'⟩ | ⟨g, cap, cur, h, hg, _⟩
  · omega
  · exact ⟨g, cap, h, hg⟩
theorem Way.other {w w' : World} {b2 n : Nat} {u v : Value} {xs : List Value} {L : List (List To)} (h : Way w b2 A v L) (hu : w.ownsRow b2 36 1 u n xs) (hk : ∀ g, g < w.heap.size → some g ≠ u.ownBlock → w'.heap[g]? = w.heap[g]?) (hsep : ∀ g, v.ownBlock = some g → u.ownBlock ≠ some g) : Way w' b2 A v L := by
  obtain ⟨vs, h1, h2, h3⟩ := h
  refine ⟨vs, own_keep h1 (fun g cur hv _ hh => hk g (Array.getElem?_eq_some_iff.1 hh).1 (fun e => hsep g hv e.symm)), h2, fun j hj hj' => ⟨own_keep (h3 j hj hj').1 (fun g cur hv _ hh => hk g (Array.getElem?_eq_some_iff.1 hh).1 (fun e => ?_)), (h3 j hj hj').2⟩⟩
  obtain ⟨c2, hh2⟩ := own_type hu e.symm
  rw [hh2] at hh
  simp at hh
/-- the way of one talker is one list longer -/
theorem St.push (h : St w N Wh F es rs LL A w4) {k' : Nat} (hk' : k' < 2) {wx : Option Addr} {wn wm : Nat} (hc : w4.cell? ⟨F.Y, k', none⟩ = some (.slice wx wn wm)) {vs : List Value} (hwo : w4.ownsRow F.b2 36 1 (.slice wx wn wm) (LL k').length vs) (hwl : vs.length = (LL k').length) (hwi : ∀ j (h : j < (LL k').length) (h' : j < vs.length), w4.ownsRow F.b2 44 5 vs[j] (LL k')[j].length (tls (LL k')[j]) ∧ ∀ g, vs[j].ownBlock = some g → ¬ A g)
    {a5 : Option Addr} {c5 : Nat} {L : List To} (hoc : W5.ownsRow w4.heap.size 44 5 (.slice a5 L.length c5) L.length (tls L)) (hb5 : Below w4.heap.size w4 W5) {g6 c6 : Nat} {o : Obj} (ho6 : W6.ownsRow F.b2 36 1 (.slice (some ⟨g6, 0, none⟩) ((LL k').length + 1) c6) ((LL k').length + 1) (vs ++ [.slice a5 L.length c5])) (hg6 : (W5.alloc o).grownBy W6 (Value.slice wx wn wm).ownBlock) (hat : some g6 = (Value.slice wx wn wm).ownBlock ∨ some g6 = some (W5.alloc o).heap.size) :
    St w N Wh F es rs (Lb.upd LL k' (LL k' ++ [L])) (fun g => A g ∧ g < w4.heap.size) (W6.setCell ⟨F.Y, k', none⟩ (.slice (some ⟨g6, 0, none⟩) ((LL k').length + 1) c6)) := by
  have l := h.lo
  have hs5 := hb5.size
  have hba : Below w4.heap.size w4 (W5.alloc o) := hb5.alloc hs5 o
  have hsz : (W5.alloc o).heap.size = W5.heap.size + 1 := by simp
  have own_lo : ∀ g, (Value.slice wx wn wm).ownBlock = some g → F.b2 ≤ g ∧ g < w4.heap.size := fun g hg => hwo.lt g hg
  have hb6 : Below F.b2 w4 W6 := (hba.mono (by omega)).grown hg6 (by omega) (fun q hq => (own_lo q hq).1)
  have k6 : ∀ g, g < w4.heap.size → some g ≠ (Value.slice wx wn wm).ownBlock → W6.heap[g]? = w4.heap[g]? := fun g hl hne => (hg6.block g (by omega) hne).trans (hba.block g hl)
  refine h.setWay hk' hb6 (fun j hj hne x n m hcj hw => ?_) ?_ (fun j hj hne v hv g hg => ?_)
  · refine ((hw.other hwo k6 (fun g hg1 hg2 => ?_)).sub (fun g hg => hg.1))
    rcases k' with _ | _ | k'
    · have : j = 1 := by omega
      subst this
      exact h.sep g _ _ hc hcj hg2 hg1
    · have : j = 0 := by omega
      subst this
      exact h.sep g _ _ hcj hc hg1 hg2
    · omega
  · have ow := own_below hwo hba
    have hoa : (W5.alloc o).ownsRow F.b2 44 5 (.slice a5 L.length c5) L.length (tls L) := (own_base' hoc (by omega)).alloc o
    refine Way.push (w := W5.alloc o) ow hwl (fun j hj hj' => ⟨own_below (hwi j hj hj').1 hba, fun g hg hB => (hwi j hj hj').2 g hg hB.1⟩) hoa (fun g hg hB => ?_) ho6 hg6
    have := (hoc.lt g hg).1
    omega
  · intro hv2
    have hgl : g = g6 := by cases hg; rfl
    subst hgl
    have hvl : g < w4.heap.size ∧ (Value.slice wx wn wm).ownBlock ≠ some g := by
      obtain ⟨x, n, m, hcj, hwj⟩ := h.wy j hj
      rw [hv] at hcj
      cases hcj
      obtain ⟨vs2, h1, _, _⟩ := hwj
      refine ⟨(h1.lt g hv2).2, fun e => ?_⟩
      rcases k' with _ | _ | k'
      · have : j = 1 := by omega
        subst this
        exact h.sep g _ _ hc hv e hv2
      · have : j = 0 := by omega
        subst this
        exact h.sep g _ _ hv hc hv2 e
      · omega
    rcases hat with h' | h'
    · exact hvl.2 h'.symm
    · simp only [Option.some.injEq] at h'
      have := hvl.1
      omega
/-- a list of the caller's own stays -/
theorem own_pushed {b : Nat} {v u x : Value} {n m : Nat} {xs vs : List Value} {b2 Y k' : Nat} {o : Obj} (hO : w4.ownsRow b 44 5 v n xs) (hwo : w4.ownsRow b2 36 1 u m vs) (hb5 : Below w4.heap.size w4 W5) (hg6 : (W5.alloc o).grownBy W6 u.ownBlock) (hY : Y < b) : (W6.setCell ⟨Y, k', none⟩ x).ownsRow b 44 5 v n xs := by
  refine own_set (own_keep hO (fun g cur hv _ hh => ?_)) hY x
  have hl := (Array.getElem?_eq_some_iff.1 hh).1
  have hba : Below w4.heap.size w4 (W5.alloc o) := hb5.alloc hb5.size o
  have hsz : (W5.alloc o).heap.size = W5.heap.size + 1 := by simp
  have hs5 := hb5.size
  refine (hg6.block g (by omega) (fun e => ?_)).trans (hba.block g hl)
  obtain ⟨c2, hh2⟩ := own_type hwo e.symm
  rw [hh2] at hh
  simp at hh
end Go.Proofs.Ytmhgoddlbklbfaa.Lb
