/- tell (34) in plain words and in memory: what is told so far, the front at hand. No conditions. -/
import Derived.Test.YtfjocafepigijaaDoorUtM
import Derived.Test.YtfjocafepigijaaDoorUu
namespace Go.Proofs.YtfjocafepigijaaDoor.Ot
open Go.RowKit Mv Sy Po Ps Cm Pa Am Wd St Ra Set

/-- a list of texts lies in a row -/
def Tls (w : World) (vals : List Value) (l : List (List Int)) : Prop := vals.length = l.length ∧ ∀ (m : Nat) (v : Value), vals[m]? = some v → ∃ t : List Int, l[m]? = some t ∧ Tx w v t
theorem Tls.kept {w w' : World} {vals : List Value} {l : List (List Int)} {X : Nat → Prop} (h : Tls w vals l) (hk : Kp X w w') (hX : ∀ b cs, w.heap[b]? = some (.cells cs 3 (0, 0)) → ¬ X b) : Tls w' vals l := ⟨h.1, fun m v hm => by
  obtain ⟨t, h1, h2⟩ := h.2 m v hm
  exact ⟨t, h1, h2.kept hk hX⟩⟩
theorem Tls.nil (w : World) : Tls w [] [] := ⟨rfl, fun m v h => by simp at h⟩
theorem Tls.add {w : World} {vals : List Value} {l : List (List Int)} {v : Value} {t : List Int} (h : Tls w vals l) (ht : Tx w v t) : Tls w (vals ++ [v]) (l ++ [t]) := by
  refine ⟨by simp [h.1], fun m v' hm => ?_⟩
  rcases Nat.lt_or_ge m vals.length with hlt | hge
  · rw [List.getElem?_append_left hlt] at hm
    obtain ⟨t', h1, h2⟩ := h.2 m v' hm
    exact ⟨t', by rw [List.getElem?_append_left (by rw [← h.1]; exact hlt)]; exact h1, h2⟩
  · have hl := (List.getElem?_eq_some_iff.1 hm).1
    simp at hl
    obtain rfl : m = vals.length := by omega
    rw [List.getElem?_append_right (Nat.le_refl _)] at hm
    simp at hm
    subst hm
    exact ⟨t, by rw [h.1]; simp, ht⟩
open Classical in
/-- the answers among the starts -/
noncomputable def ans (E : Int → Nat → Nat → Prop) (F : List Nat) (T : List (List Int)) : List (List Int) := T.filter fun t => decide (An E F t)
open Classical in
theorem ans_up {E : Int → Nat → Nat → Prop} {F : List Nat} {T : List (List Int)} {t : List Int} : ans E F (T ++ [t]) = ans E F T ++ (if An E F t then [t] else []) := by
  unfold ans
  rw [List.filter_append]
  congr 1
  by_cases h : An E F t
  · simp [h]
  · simp [h]
open Classical in
theorem Tp.next {E : Int → Nat → Nat → Prop} {F : List Nat} {L j : Nat} {l T : List (List Int)} (h : Tp E F j l) (hT : Fp E F L j T) (hj : j ≤ L) : Tp E F (j + 1) (l ++ ans E F T) := h.tell hT hj (fun t => decide (An E F t)) (fun t _ => by rw [decide_eq_true_iff])
/-- whether a set's end is an answer -/
theorem en_an {E : Int → Nat → Nat → Prop} {F : List Nat} {M L left : Nat} {N : Nat → Nat} {ws : List Nat} {t : List Int} (hN : Nd E F M L N) (hn : M ≤ 64 * ws.length) (hX : ∀ x, mem ws x = true ↔ Wr E t x ∧ N x ≤ left) : en N ws = true ↔ An E F t := by
  rw [en_iff hn (fun v hv => hN.wr ((hX v).1 hv).1), hN.ans]
  constructor
  · rintro ⟨v, hv, h0⟩
    exact ⟨v, ((hX v).1 hv).1, h0⟩
  · rintro ⟨v, hv, h0⟩
    exact ⟨v, (hX v).2 ⟨hv, by omega⟩, h0⟩
open Classical in
/-- the next front, by the symbols that Bt tells -/
theorem bs_bt {S : Nat} {tx : List Int} {A : List Arc} {F : List Nat} {N : Nat → Nat} {M L l j : Nat} {t : List Int} (hN : Nd (Eg S tx A) F M L N) (hA : ∀ a ∈ A, a.2.2.2.1 ≤ 60) (h0 : ∀ a ∈ A, 0 ≤ a.2.2.2.1) (hl : j + (l + 1) = L) : Bs (Eg S tx A) F L j t ((Bt (Eg S tx A) N l t).map fun (c : Nat) => (c : Int)) := by
  refine ⟨fun c => ⟨fun hc => ?_, fun hc => ?_⟩, ?_⟩
  · obtain ⟨d, hd, rfl⟩ := List.mem_map.1 hc
    obtain ⟨_, h2⟩ := List.mem_filter.1 hd
    obtain ⟨h3, x, h4⟩ := of_decide_eq_true h2
    obtain ⟨s, h5, h6⟩ := (hN.live (t := t ++ [(d : Int)]) (k := l) (by omega)).1 ⟨x, h4⟩
    exact ⟨by omega, s, by omega, h6⟩
  · obtain ⟨h1, s, h2, h3⟩ := hc
    obtain ⟨x, hx1, hx2⟩ := (hN.live (t := t ++ [c]) (k := l) (by omega)).2 ⟨s, by omega, h3⟩
    have hcb : 0 < c ∧ c ≤ 60 := by
      rcases hx1 with ⟨h4, _⟩ | ⟨u, d, t', _, h5, _, ⟨a, ha, h6, _⟩⟩
      · simp at h4
      · have h7 := (List.append_inj' h5 (by simp)).2
        have h8 : c = d := by simpa using h7
        have := hA a ha
        have := h0 a ha
        omega
    refine List.mem_map.2 ⟨c.toNat, List.mem_filter.2 ⟨List.mem_range.2 (by omega), decide_eq_true ?_⟩, by omega⟩
    have e : ((c.toNat : Nat) : Int) = c := by omega
    exact ⟨by omega, x, by rw [e]; exact ⟨hx1, hx2⟩⟩
  · refine List.pairwise_map.2 ?_
    refine (List.Pairwise.filter _ List.pairwise_lt_range).imp ?_
    intro a b hab
    omega
end Go.Proofs.YtfjocafepigijaaDoor.Ot
/- tell (34) walked: all answers, or that there are too many. Conditions: as in longer; at most 8 symbols are written. -/
namespace Go.Proofs.YtfjocafepigijaaDoor.Ot
open Go.RowKit Mv Sy Po Ps Cm Pa Am Wd St Ra Set

theorem inf26 : (Tryd.prog.info? 26).map (fun i => (i.zero, i.size, i.bytes)) = some (some (.slice none 0 0), 1, 24) := by kernel_rfl
/-- how all lies between two lengths -/
structure Tw (b1 : Nat) (w wr : World) (f M left : Nat) (vs vk ve vt : Value) (sts : List (Value × Nat)) (ks : List (Value × List Nat)) (es : List Bool) (stT : List (List Int × Nat)) (told : List (List Int)) (vals : List Value) (E : Int → Nat → Nat → Prop) (N : Nat → Nat) : Prop where
  fr : Fr b1 wr f vs vk ve sts ks es M
  bge : w.heap.size ≤ b1
  es : es = ks.map fun p => en N p.2
  tx : Txs wr sts stT
  sem : Sem E N left stT ks
  trow : wr.ownsRow w.heap.size 26 1 vt told.length vals
  tls : Tls wr vals told
  below : Below w.heap.size w wr
section
variable {b1 : Nat} {w wr w1 : World} {f M left : Nat} {vs vk ve vt : Value} {sts : List (Value × Nat)} {ks : List (Value × List Nat)} {es : List Bool} {stT : List (List Int × Nat)} {told : List (List Int)} {vals : List Value} {E : Int → Nat → Nat → Prop} {N : Nat → Nat}
theorem Tw.laid (h : Tw b1 w wr f M left vs vk ve vt sts ks es stT told vals E N) (hb : Below wr.heap.size wr w1) : Tw b1 w w1 f M left vs vk ve vt sts ks es stT told vals E N :=
  ⟨h.fr.below hb, h.bge, h.es, h.tx.kept (kp_below hb (fun _ => False)) (fun _ _ _ => id), h.sem, own_kp2 h.trow (kp_below hb (fun _ => False)) (fun _ _ => id), h.tls.kept (kp_below hb (fun _ => False)) (fun _ _ _ => id), h.below.trans (hb.mono h.below.size)⟩
/-- an answer more -/
theorem Tw.more {v1 tv : Value} {t : List Int} (h : Tw b1 w wr f M left vs vk ve vt sts ks es stT told vals E N) (ho : w1.ownsRow w.heap.size 26 1 v1 (told.length + 1) (vals ++ [tv])) (hg : wr.grownBy w1 vt.ownBlock) (ht : Tx wr tv t) : Tw b1 w w1 f M left vs vk ve v1 sts ks es stT (told ++ [t]) (vals ++ [tv]) E N := by
  have hk : Kp (fun b => vt.ownBlock = some b) wr w1 := (Kp.refl _ wr).grown hg (fun b hb _ => hb)
  have nt : ∀ {b : Nat} {c : Array Value} {ty : TypeId}, wr.heap[b]? = some (.cells c ty (0, 0)) → ty ≠ 26 → ¬ vt.ownBlock = some b := fun {b c ty} hb hne e => by
    obtain ⟨d, hd⟩ := own_ty h.trow e; exact ty_ne hb hd hne
  refine ⟨h.fr.kept hk (fun b e1 e2 => ?_), h.bge, h.es, h.tx.kept hk (fun b cs hb => nt hb (by decide)), h.sem, by rw [List.length_append]; exact ho, (h.tls.kept hk (fun b cs hb => nt hb (by decide))).add (ht.kept hk (fun b cs hb => nt hb (by decide))), h.below.grown hg h.below.size (fun b hb => (h.trow.lt _ hb).1)⟩
  obtain ⟨_, d, ty, hd, ht⟩ := h.fr.X e2
  refine nt hd ?_ e1
  rcases ht with rfl | rfl | rfl | rfl | rfl <;> decide
/-- the next front -/
theorem Tw.next {l f' : Nat} {vs' vk' ve' : Value} {sts' : List (Value × Nat)} {ks' : List (Value × List Nat)} {es' : List Bool} {stT' : List (List Int × Nat)} (h : Tw b1 w wr f M (l + 1) vs vk ve vt sts ks es stT told vals E N) (hk : Kp (fun b => ∃ p ∈ ks, p.1.ownBlock = some b) wr w1) (hf : Fr wr.heap.size w1 f' vs' vk' ve' sts' ks' es' M) (he : es' = ks'.map fun p => en N p.2) (hx : Txs w1 sts' stT') (hs : Sem E N l stT' ks') : Tw wr.heap.size w w1 f' M l vs' vk' ve' vt sts' ks' es' stT' told vals E N := by
  have nt : ∀ {b : Nat} {c : Array Value} {ty : TypeId}, wr.heap[b]? = some (.cells c ty (0, 0)) → ty ≠ 136 → ¬ ∃ p ∈ ks, p.1.ownBlock = some b := fun {b c ty} hb hne ⟨p, hp, e⟩ => by
    obtain ⟨d, hd⟩ := own_ty (h.fr.each p hp).1.1 e; exact ty_ne hb hd hne
  refine ⟨hf, h.below.size, he, hx, hs, own_kp2 h.trow hk (fun b hb => by obtain ⟨d, hd⟩ := own_ty h.trow hb; exact nt hd (by decide)), h.tls.kept hk (fun b cs hb => nt hb (by decide)), ⟨hk.os.trans h.below.os, hk.tape.trans h.below.tape, hk.output.trans h.below.output, Nat.le_trans h.below.size hk.size, fun k hlt => (hk.block k (Nat.lt_of_lt_of_le hlt h.below.size) (fun ⟨p, hp, e⟩ => ?_)).trans (h.below.block k hlt)⟩⟩
  have := ((h.fr.each p hp).1.1.lt _ e).1
  have := h.bge
  omega
end
/-- what tell hands back -/
def TeQ (E : Int → Nat → Nat → Prop) (F : List Nat) (L : Nat) (w : World) (e : Ending) (w' : World) : Prop :=
  Below w.heap.size w w' ∧ ((∃ vt told vals, e = .returned (.tuple #[vt, .int .i64 0]) ∧ w'.ownsRow w.heap.size 26 1 vt told.length vals ∧ Tls w' vals told ∧ OutP E F L false told) ∨ (e = .returned (.tuple #[.slice none 0 0, .int .i64 7]) ∧ OutP E F L true []))
theorem out_of {E : Int → Nat → Nat → Prop} {F : List Nat} {L : Nat} {l : List (List Int)} (h : Tp E F (L + 1) l) (hl : l.length ≤ 500) : OutP E F L false l := .inl ⟨rfl, h.ord, hl, fun t => by rw [h.mem t]; exact ⟨fun h => ⟨by omega, h.2⟩, fun h => ⟨by omega, h.2⟩⟩⟩
theorem out_many {E : Int → Nat → Nat → Prop} {F : List Nat} {L j : Nat} {l T : List (List Int)} (h : Tp E F (j + 1) l) (hT : Fp E F L (j + 1) T) (hj : j + 1 ≤ L) (hk : 500 < l.length + T.length) : OutP E F L true [] := by
  obtain ⟨B, h1, h2, h3⟩ := many h hT hj hk
  exact .inr ⟨rfl, rfl, B, h1, h2, h3⟩
theorem fp_next {S : Nat} {tx : List Int} {A : List Arc} {F : List Nat} {N : Nat → Nat} {M L l j : Nat} {T : List (List Int × Nat)} (hN : Nd (Eg S tx A) F M L N) (hA : ∀ a ∈ A, a.2.2.2.1 ≤ 60) (h0 : ∀ a ∈ A, 0 ≤ a.2.2.2.1) (hl : j + (l + 1) = L) (hT : Fp (Eg S tx A) F L j (T.map Prod.fst)) : Fp (Eg S tx A) F L (j + 1) (nxT (Eg S tx A) N l T) := by
  have h := hT.next (fun t => (Bt (Eg S tx A) N l t).map fun (c : Nat) => (c : Int)) (fun t _ => bs_bt hN hA h0 hl)
  have e : nxt (fun t => (Bt (Eg S tx A) N l t).map fun (c : Nat) => (c : Int)) (T.map Prod.fst) = nxT (Eg S tx A) N l T := by
    unfold nxt nxT
    rw [List.flatMap_map]
    congr 1
    funext p
    rw [List.map_map]
    rfl
  rw [e] at h
  exact h
end Go.Proofs.YtfjocafepigijaaDoor.Ot
/- tell (34): its first front. Conditions: as in longer; at most 8 symbols are written. -/
namespace Go.Proofs.YtfjocafepigijaaDoor.Ot
open Go.RowKit Mv Sy Po Ps Cm Pa Am Wd St Ra Set

theorem none_out {E : Int → Nat → Nat → Prop} {F : List Nat} {M L : Nat} {N : Nat → Nat} (hN : Nd E F M L N) (h : ¬ N 0 ≤ L) : OutP E F L false [] := by
  refine .inl ⟨rfl, List.Pairwise.nil, Nat.zero_le _, fun t => ⟨fun h => (by cases h), fun ht => absurd ?_ h⟩⟩
  obtain ⟨v, hw, hn⟩ := (hN.live (t := []) (k := L) (Nat.le_refl _)).2 ⟨t, ht.1, by simpa using ht.2⟩
  rcases hw with ⟨_, rfl⟩ | ⟨u, c, t', _, h1, _⟩
  · exact hn
  · simp at h1
theorem sem_first {E : Int → Nat → Nat → Prop} {N : Nat → Nat} {L n : Nat} {v0 : Value} (hn : 0 < n) (h0 : N 0 ≤ L) : Sem E N L [([], 0)] [(v0, put (List.replicate n 0) 0)] := by
  intro p hp
  rw [List.mem_singleton.1 hp]
  refine ⟨_, rfl, fun x => ?_⟩
  rw [mem_put _ _ _ (by simpa using hn), mem_zero]
  constructor
  · intro h
    have e : x = 0 := by simpa using h
    subst e
    exact ⟨.inl ⟨rfl, rfl⟩, h0⟩
  · rintro ⟨hw, _⟩
    rcases hw with ⟨_, rfl⟩ | ⟨u, c, t', _, h1, _⟩
    · simp
    · simp at h1
/-- the first front lies -/
def Ff (w : World) (f M n : Nat) (N : Nat → Nat) (wx : World) : Prop := ∃ vs vk ve v0, Fr w.heap.size wx f vs vk ve [(.slice none 0 0, 0)] [(v0, put (List.replicate n 0) 0)] [en N (put (List.replicate n 0) 0)] M ∧ Below w.heap.size w wx
theorem Tw.kpb {b1 : Nat} {w wr w1 : World} {f M left : Nat} {vs vk ve vt : Value} {sts : List (Value × Nat)} {ks : List (Value × List Nat)} {es : List Bool} {stT : List (List Int × Nat)} {told : List (List Int)} {vals : List Value} {E : Int → Nat → Nat → Prop} {N : Nat → Nat} (h : Tw b1 w wr f M left vs vk ve vt sts ks es stT told vals E N) (hk : Kp (fun b => ∃ p ∈ ks, p.1.ownBlock = some b) wr w1) : Below w.heap.size w w1 :=
  ⟨hk.os.trans h.below.os, hk.tape.trans h.below.tape, hk.output.trans h.below.output, Nat.le_trans h.below.size hk.size, fun k hlt => (hk.block k (Nat.lt_of_lt_of_le hlt h.below.size) (fun ⟨p, hp, e⟩ => by have := ((h.fr.each p hp).1.1.lt _ e).1; have := h.bge; omega)).trans (h.below.block k hlt)⟩
theorem ans_len {E : Int → Nat → Nat → Prop} {F : List Nat} {T : List (List Int)} : (ans E F T).length ≤ T.length := List.length_filter_le _ _
theorem first_put {w W w4 : World} {f M n : Nat} {N : Nat → Nat} {v0 v0' vk ve : Value} (hv : v0 = v0') (hf : Fr w.heap.size w4 f (.slice none 0 0) vk ve [] ([] ++ [(v0', put (List.replicate n 0) 0)]) ([] ++ [en N (put (List.replicate n 0) 0)]) M) (hk : Kp (fun b => b = f ∨ (Value.slice none 0 0).ownBlock = some b ∨ (Value.slice none 0 0).ownBlock = some b) W.drew w4) (hb : Below w.heap.size w W) (hg : w.heap.size ≤ f) :
    Fr w.heap.size w4 f (.slice none 0 0) vk ve [] [(v0, put (List.replicate n 0) 0)] [en N (put (List.replicate n 0) 0)] M ∧ Below w.heap.size w w4 := by
  subst hv
  refine ⟨hf, ⟨hk.os.trans hb.os, hk.tape.trans hb.tape, hk.output.trans hb.output, Nat.le_trans hb.size hk.size, fun k hlt => (hk.block k (Nat.lt_of_lt_of_le hlt hb.size) (fun e => ?_)).trans (hb.block k hlt)⟩⟩
  rcases e with e | e | e
  · omega
  · cases e
  · cases e
theorem first_start {w w4 w5 : World} {f M n : Nat} {N : Nat → Nat} {v0 vk ve v5 : Value} {o : Obj} (hf : Fr w.heap.size w4 f (.slice none 0 0) vk ve [] [(v0, put (List.replicate n 0) 0)] [en N (put (List.replicate n 0) 0)] M) (hb : Below w.heap.size w w4) (ho : w5.ownsRow w.heap.size 125 2 v5 (0 + 1) ([] ++ [.slice none 0 0, .int .i64 0])) (hg : (w4.alloc o).grownBy w5 (Value.slice none 0 0).ownBlock) : Ff w f M n N (w5.setCell ⟨f, 0, none⟩ v5) := by
  obtain ⟨h1, hk⟩ := (hf.below (below_al w4 o)).addStart (t := .slice none 0 0) (k := 0) ho hg
  have hb2 : Below w.heap.size w (w4.alloc o) := hb.alloc hb.size _
  refine ⟨_, _, _, _, h1, ⟨hk.os.trans hb2.os, hk.tape.trans hb2.tape, hk.output.trans hb2.output, Nat.le_trans hb2.size hk.size, fun k hlt => (hk.block k (Nat.lt_of_lt_of_le hlt hb2.size) (fun e => ?_)).trans (hb2.block k hlt)⟩⟩
  rcases e with e | e
  · have := hf.fge; omega
  · cases e
set_option maxHeartbeats 8000000 in
set_option maxRecDepth 100000 in
theorem tell_out (b2 T S sb ci nb cN M L : Nat) (ai : Option Addr) (tx : List Int) (A : List Arc) (V : Nat → Value) (N : Nat → Nat) (F : List Nat) (w : World)
    (hT : Tr b2 w T S sb ci nb cN M ai tx (rws (fun a => a) A) V N) (hF : Fine S tx A M) (hTab : TabAt 0 Lib.deBruijn64tab w) (hNd : Nd (Eg S tx A) F M L N) (hL : L ≤ 8) :
    Calls Tryd.prog 34 #[.pointer (some ⟨T, 0, none⟩), .int .i64 (L : Int)] w (TeQ (Eg S tx A) F L w) := by
  obtain ⟨i5, hi5, hy0, hy1, hy2⟩ := info_parts inf125
  obtain ⟨i6, hi6, hx0, hx1, hx2⟩ := info_parts inf26
  have hM1 := hNd.pos
  have hM : M ≤ 2480 := by rw [hF.eM]; exact Nat.le_trans (Nat.mul_le_mul hF.st (Nat.succ_le_succ hF.txl)) (by decide)
  have h00 : 0 < w.heap.size := Nat.lt_of_le_of_lt (Nat.zero_le _) (lt_at hT.trk)
  have t3 := cell_of_row _ _ 3 _ _ _ hT.trk
  obtain ⟨n0, hn0⟩ : ∃ n0, N 0 = n0 := ⟨_, rfl⟩
  have nc := hT.need 0 hM1
  rw [hn0] at nc
  have hcN := hT.cap
  have HN0 : Hid (N 0 = n0) := hn0
  have HALL : Hid (Tr b2 w T S sb ci nb cN M ai tx (rws (fun a => a) A) V N ∧ Fine S tx A M ∧ TabAt 0 Lib.deBruijn64tab w ∧ Nd (Eg S tx A) F M L N ∧ 0 < w.heap.size) := ⟨hT, hF, hTab, hNd, h00⟩
  clear hn0
  by_cases hle : n0 ≤ L
  case neg =>
    have hgt : (L : Int) < (n0 : Int) := by omega
    have HLE : Hid (¬ n0 ≤ L) := hle
    clear hT hF hTab hNd hle h00
    go_enter Tryd.func34, Tryd.ntmps34
    go_wp2
    go_ret2
    exact ⟨Below.refl _ _, .inl ⟨_, [], [], rfl, World.ownsRow_nil _ _ _ _, Tls.nil _, none_out HALL.out.2.2.2.1 (by rw [HN0.out]; exact HLE.out)⟩⟩
  case pos =>
  have hgt : ¬ (L : Int) < (n0 : Int) := by omega
  have HLE : Hid (N 0 ≤ L) := by show N 0 ≤ L; rw [HN0.out]; exact hle
  obtain ⟨O1, hO1⟩ : ∃ O1 : Obj, Obj.cells #[.slice none 0 0, .slice none 0 0, .slice none 0 0] 122 = O1 := ⟨_, rfl⟩
  have B1 := below_al w O1
  have t31 : (w.alloc O1).cell? ⟨T, 3, none⟩ = some (.slice (some ⟨nb, 0, none⟩) M cN) := (B1.cell (p := ⟨T, 3, none⟩) (lt_at hT.trk)).trans t3
  have hf0 : (w.alloc O1).heap[w.heap.size]? = some (.cells #[.slice none 0 0, .slice none 0 0, .slice none 0 0] 122 (0, 0)) := by rw [← hO1]; exact heap_alloc_new _ _
  have HF0 : Hid (Fr w.heap.size (w.alloc O1) w.heap.size (.slice none 0 0) (.slice none 0 0) (.slice none 0 0) [] [] [] M) := ⟨hf0, Nat.le_refl _, World.ownsRow_nil _ _ _ _, World.ownsRow_nil _ _ _ _, World.ownsRow_nil _ _ _ _, fun p hp => (by cases hp), List.Pairwise.nil⟩
  have HB1 : Hid (Below w.heap.size w (w.alloc O1)) := B1
  have K59 := new_zero M (w.alloc O1) (by omega)
  clear hT hF hTab hNd hle h00 B1 hf0
  go_enter Tryd.func34, Tryd.ntmps34
  go_upto_region 5 with fail
  obtain ⟨f, hf⟩ : ∃ f, w.heap.size = f := ⟨_, rfl⟩
  have HFE : Hid (w.heap.size = f) := hf
  rw [show Fr w.heap.size (w.alloc O1) w.heap.size = Fr w.heap.size (w.alloc O1) f by rw [hf]] at HF0
  rw [hf]
  clear hf t3 nc
  generalize w.alloc O1 = V1 at *
  go_upto_region 6 with (go_at_call 59; (with_reducible refine K59.mono ?_); clear K59; rintro e w2 ⟨v0, rfl, hs2, hb2⟩; have HB2 : Hid (Below V1.heap.size V1 w2 ∧ IsSet w2 V1.heap.size v0 M (List.replicate ((M + 63) / 64) 0)) := ⟨hb2, hs2⟩; clear hs2 hb2)
  obtain ⟨g0, c0, hv0, _, _⟩ := own_some HB2.out.2.1 (by simp; omega)
  have K60 := add_any V1.heap.size v0 M 0 (List.replicate ((M + 63) / 64) 0) w2 HB2.out.2 hM1 (by omega)
  rw [show ((0 : Nat) : Int) = 0 from rfl, hv0] at K60
  have HV0 : Hid (v0 = .slice (some ⟨g0, 0, none⟩) ((M + 63) / 64) c0) := by show _ = _; have := hv0; simp only [List.length_replicate] at this; exact this
  simp only [List.length_replicate] at K60
  rw [HV0.out]
  clear hv0
  go_upto_region 7 with (go_at_call 60; (with_reducible refine K60.mono ?_); clear K60; rintro e w3 ⟨rfl, hs3, hg3⟩; rw [← HV0.out] at hs3 hg3; have HB3 : Hid (IsSet w3 V1.heap.size v0 M (put (List.replicate ((M + 63) / 64) 0) 0) ∧ w2.grownBy w3 v0.ownBlock) := ⟨hs3, hg3⟩; clear hs3 hg3)
  have HW3 : Hid (Fr w.heap.size w3 f (.slice none 0 0) (.slice none 0 0) (.slice none 0 0) [] [] [] M ∧ Below w.heap.size w w3 ∧ IsSet w3 w.heap.size v0 M (put (List.replicate ((M + 63) / 64) 0) 0)) := by
    have hge : ∀ b, v0.ownBlock = some b → V1.heap.size ≤ b := fun b hb => (HB2.out.2.1.lt _ hb).1
    have hk : Kp (fun b => v0.ownBlock = some b) w2 w3 := (Kp.refl _ w2).grown HB3.out.2 (fun b hb _ => hb)
    have hb2 : Below w.heap.size w w2 := HB1.out.trans (HB2.out.1.mono HB1.out.size)
    refine ⟨(HF0.out.below HB2.out.1).kept hk (fun b e1 e2 => ?_), hb2.grown HB3.out.2 hb2.size (fun b hb => Nat.le_trans HB1.out.size (hge b hb)), ⟨own_low HB3.out.1.1 HB1.out.size, HB3.out.1.2⟩⟩
    have h1 := hge b e1
    rcases e2 with rfl | e2 | e2 | e2 | ⟨p, hp, _⟩
    · have := lt_at HF0.out.row; omega
    · cases e2
    · cases e2
    · cases e2
    · cases hp
  clear HB2 HB3 HF0 HB1
  have HMB : Hid (∀ x, mem (put (List.replicate ((M + 63) / 64) 0) 0) x = true → x < M) := fun x hx => by
    rw [mem_put _ _ _ (by simp; omega), mem_zero] at hx
    have e : x = 0 := by simpa using hx
    omega
  have K63 : ∀ W, Below w3.heap.size w3 W → Calls Tryd.prog 63 #[.pointer (some ⟨f, 0, none⟩), .pointer (some ⟨T, 0, none⟩), v0] W (PuQ w.heap.size f M W (.slice none 0 0) (.slice none 0 0) (.slice none 0 0) v0 [] [] [] (put (List.replicate ((M + 63) / 64) 0) 0) N) := fun W hb => by
    have hbw : Below w.heap.size w W := HW3.out.2.1.trans (hb.mono HW3.out.2.1.size)
    exact put_any w.heap.size b2 f T S sb ci nb cN M ai tx (rws (fun a => a) A) V N _ _ _ v0 [] [] [] _ W (HALL.out.1.below (hbw.mono HALL.out.1.le)) (Tz.tab_below HALL.out.2.2.1 HALL.out.2.2.2.2 hbw) (HW3.out.1.below hb) ⟨own_kp2 HW3.out.2.2.1 (kp_below hb (fun _ => False)) (fun _ _ => id), HW3.out.2.2.2⟩ (by rw [put_len]; simp) HMB.out (fun p hp => (by cases hp)) (Nat.zero_le _) rfl hbw.size
  rw [HV0.out] at K63
  have f0 := cell_of_row _ _ 0 _ _ _ HW3.out.1.row
  have HW3S : Hid (w.heap.size ≤ w3.heap.size) := HW3.out.2.1.size
  go_cut [] from 32 to 46 (fun wx => Ff w f M ((M + 63) / 64) N wx)
  case first =>
    go_region_law (first
      | (go_simp; refine (K63 _ (below_drewN (Below.refl _ _) 1)).mono ?_; rintro e w4 ⟨rfl, vk4, ve4, hf4, hk4, _, _⟩; have HF4 : Hid (Fr w.heap.size w4 f (.slice none 0 0) vk4 ve4 [] [(v0, put (List.replicate ((M + 63) / 64) 0) 0)] [en N (put (List.replicate ((M + 63) / 64) 0) 0)] M ∧ Below w.heap.size w w4) := first_put HV0.out hf4 hk4 HW3.out.2.1 HW3.out.1.fge; clear hf4 hk4; have g0 := cell_of_row _ _ 0 _ _ _ HF4.out.1.row; have g00 : ∀ o, (w4.alloc o).cell? ⟨f, 0, none⟩ = some (.slice none 0 0) := fun o => cell_of_row _ _ 0 _ _ _ (HF4.out.1.below (below_al w4 o)).row; dsimp only)
      | (refine step_append_at rfl (.tmp 36) (.tmp 42) 119 rfl w.heap.size 125 i5 (.agg #[.slice none 0 0, .int .i64 0]) 2 32 Tryd.underlying119 hi5 hy0 hy1 hy2 rfl (by decide) _ _ _ rfl (World.ownsRow_nil _ _ _ _) ⟨_, 0, none⟩ 1 1 [.slice none 0 0, .int .i64 0] rfl rfl (cell_two_at _ _ _ _ _ rfl) (two_of _ _ rfl) (by unfold maxLen; omega) (by omega) (le_al HF4.out.2.size) ?_; intro v5 w5 ho5 hg5 hl5; obtain ⟨g5, c5, rfl, _, _⟩ := own_some ho5 (Nat.succ_pos _); have hfr5 := (HF4.out.1.below (below_al w4 (.cells #[.slice none 0 0, .int .i64 0] 125))).f1 (World.ownsRow_nil _ w.heap.size 125 2) (by decide) hg5; have z2 := cell_of_row _ _ 0 _ _ _ hfr5; have z3 := frozen_of_row _ _ 0 _ _ hfr5; have HN5 : Hid _ := first_start HF4.out.1 HF4.out.2 ho5 hg5; clear ho5 hg5 hl5 hfr5))
    all_goals (go_wp2_with fail; go_meet)
    all_goals exact HN5.out
  case rest =>
  obtain ⟨vs, vk, ve, v1, hff, hbf⟩ := hcut
  have HTW0 : Hid (Tw w.heap.size w wc f M L vs vk ve (.slice none 0 0) [(.slice none 0 0, 0)] [(v1, put (List.replicate ((M + 63) / 64) 0) 0)] [en N (put (List.replicate ((M + 63) / 64) 0) 0)] [([], 0)] [] [] (Eg S tx A) N) := ⟨hff, Nat.le_refl _, rfl, ⟨rfl, fun m v k hm => by
    match m, hm with
    | 0, hm =>
      simp at hm
      obtain ⟨rfl, rfl⟩ := hm
      exact ⟨[], rfl, none, 0, rfl, .inl ⟨rfl, rfl⟩⟩⟩, sem_first (by omega) HLE.out, World.ownsRow_nil _ _ _ _, Tls.nil _, hbf⟩
  have HFP0 : Hid (Fp (Eg S tx A) F L 0 [[]]) := Fp.begin _ _ (by
    obtain ⟨s, h1, h2⟩ := (HALL.out.2.2.2.1.live (t := []) (k := L) (Nat.le_refl _)).1 ⟨0, .inl ⟨rfl, rfl⟩, HLE.out⟩
    exact ⟨s, h1, by simpa using h2⟩)
  clear hff hbf f0 K63 HW3 HW3S HMB HV0
  go_upto_region 10 with fail
  go_loopw [6, 7, 9] (fun a b c wr => ∃ (j left f b1 : Nat) (vs vk ve vt : Value) (sts : List (Value × Nat)) (ks : List (Value × List Nat)) (es : List Bool) (stT : List (List Int × Nat)) (told : List (List Int)) (vals : List Value), a = vt ∧ b = .pointer (some ⟨f, 0, none⟩) ∧ c = .int .i64 (left : Int) ∧ j + left = L ∧ Tw b1 w wr f M left vs vk ve vt sts ks es stT told vals (Eg S tx A) N ∧ Fp (Eg S tx A) F L j (stT.map Prod.fst) ∧ Tp (Eg S tx A) F j told ∧ told.length + stT.length ≤ 500 ∧ ks.length ≤ stT.length) (fun _ _ c _ => (intOf c).toNat)
  case atStart => exact ⟨0, L, f, _, _, _, _, _, _, _, _, _, _, _, rfl, rfl, rfl, Nat.zero_add _, HTW0.out, HFP0.out, Tp.begin _ _, by simp, by simp⟩
  case round =>
    clear HTW0 HFP0
    obtain ⟨j, left, f, b1, vs, vk, ve, vt, sts, ks, es, stT, told, vals, rfl, rfl, rfl, hjl, htw, hfp, htp, hsum, hks⟩ := hrel
    obtain ⟨avs, cvs, rfl⟩ := oslice htw.fr.starts
    obtain ⟨avt, cvt, rfl⟩ := oslice htw.trow
    have HFT : Hid (Fp (Eg S tx A) F L j (stT.map Prod.fst) ∧ Tp (Eg S tx A) F j told ∧ told.length + stT.length ≤ 500 ∧ ks.length ≤ stT.length ∧ j + left = L) := ⟨hfp, htp, hsum, hks, hjl⟩
    obtain ⟨ns1, hns⟩ : ∃ ns1, sts.length = ns1 := ⟨_, rfl⟩
    obtain ⟨nt1, hnt⟩ : ∃ nt1, told.length = nt1 := ⟨_, rfl⟩
    rw [hns, hnt] at htw
    have HNS : Hid (sts.length = ns1 ∧ told.length = nt1 ∧ sts.length = stT.length) := ⟨hns, hnt, htw.tx.1⟩
    have HTW : Hid (Tw b1 w wr f M left (.slice avs ns1 cvs) vk ve (.slice avt nt1 cvt) sts ks es stT told vals (Eg S tx A) N) := htw
    have hn500 : ns1 ≤ 500 := by rw [← hns, htw.tx.1]; omega
    have hleft : left ≤ 8 := by omega
    rw [hnt]
    have f0 := cell_of_row _ _ 0 _ _ _ htw.fr.row
    clear htw hfp htp hsum hks hns hnt hjl
    go_upto_region 11 with fail
    clear f0
    go_loopw [6, 54] (fun a i wr => ∃ (y : Nat) (vt : Value) (told1 : List (List Int)) (vals : List Value), a = vt ∧ i = .int .i64 (y : Int) ∧ y ≤ ns1 ∧ Tw b1 w wr f M left (.slice avs ns1 cvs) vk ve vt sts ks es stT told1 vals (Eg S tx A) N ∧ told1 = told ++ ans (Eg S tx A) F ((stT.map Prod.fst).take y)) (fun _ i _ => ns1 - (intOf i).toNat)
    case atStart => exact ⟨0, _, told, vals, rfl, rfl, Nat.zero_le _, HTW.out, by simp [ans]⟩
    case round =>
      clear HTW
      obtain ⟨y, vt, told1, vals, rfl, rfl, hy, htw, htd⟩ := hrel
      obtain ⟨avt1, cvt1, rfl⟩ := oslice htw.trow
      obtain ⟨nt2, hnt2⟩ : ∃ nt2, told1.length = nt2 := ⟨_, rfl⟩
      have HNT2 : Hid (told1.length = nt2) := hnt2
      have HTD : Hid (told1 = told ++ ans (Eg S tx A) F ((stT.map Prod.fst).take y)) := htd
      have hnt500 : nt2 ≤ 500 := by
        rw [← hnt2, htd, List.length_append]
        have h1 := ans_len (E := Eg S tx A) (F := F) (T := (stT.map Prod.fst).take y)
        have h2 := HFT.out.2.2.1
        simp only [List.length_take, List.length_map] at h1
        omega
      rw [hnt2] at htw
      have HTW : Hid (Tw b1 w wr f M left (.slice avs ns1 cvs) vk ve (.slice avt1 nt2 cvt1) sts ks es stT told1 vals (Eg S tx A) N) := htw
      rw [hnt2]
      clear htd hnt2
      by_cases hlt : y < ns1
      · have hyl : y < sts.length := by rw [HNS.out.1]; exact hlt
        obtain ⟨tv, k, hsy⟩ : ∃ tv k, sts[y] = (tv, k) := ⟨_, _, rfl⟩
        obtain ⟨t, hty, htx0⟩ := htw.tx.2 y tv k (by rw [List.getElem?_eq_getElem hyl, hsy])
        obtain ⟨pN, hpN, hmN⟩ := htw.sem (t, k) (List.mem_of_getElem? hty)
        have hkl : k < ks.length := (List.getElem?_eq_some_iff.1 hpN).1
        have hst := htw.fr.starts
        rw [HNS.out.1] at hst
        obtain ⟨sg, sc, hve, _, _⟩ := own_some hst (by omega)
        rw [Value.slice.injEq] at hve
        obtain ⟨ha1, _, ha2⟩ := hve
        subst ha1 ha2
        have u := stc_at sts y hyl
        rw [hsy] at u
        have p0 := (hst.cellAt (y * 2) (by omega)).trans u.1
        have p1 := (hst.cellAt (y * 2 + 1) (by omega)).trans u.2
        obtain ⟨at1, ct1, rfl, _⟩ := (id htx0 : Tx wr tv t)
        dsimp only at p0 p1
        obtain ⟨aes, ces, rfl⟩ := oslice htw.fr.ends
        have hel : es.length = ks.length := by rw [htw.es, List.length_map]
        obtain ⟨eg, ec, hee, _, _⟩ := own_some htw.fr.ends (by omega)
        rw [Value.slice.injEq] at hee
        obtain ⟨hb1, _, hb2⟩ := hee
        subst hb1 hb2
        have HTX : Hid (Tx (wr.alloc (.cells #[.slice at1 t.length ct1, .int .i64 (k : Int)] 125)) (.slice at1 t.length ct1) t) := htx0.below (below_al _ _)
        have hsetN := (htw.fr.each pN (List.mem_of_getElem? hpN)).1.2.2.1
        have HAN : Hid (en N pN.2 = true ↔ An (Eg S tx A) F t) := en_an HALL.out.2.2.2.1 hsetN hmN
        have HTK : Hid ((stT.map Prod.fst).take (y + 1) = (stT.map Prod.fst).take y ++ [t]) := by
          show _ = _
          have hyt : y < (stT.map Prod.fst).length := by rw [List.length_map, ← HNS.out.2.2]; exact hyl
          rw [List.take_succ_eq_append_getElem hyt]
          congr 2
          obtain ⟨h1, h2⟩ := List.getElem?_eq_some_iff.1 hty
          simp [h2]
        have hx := heap_alloc_new wr (.cells #[.slice at1 t.length ct1, .int .i64 (k : Int)] 125)
        have HT2 : Hid (Tw b1 w (wr.alloc (.cells #[.slice at1 t.length ct1, .int .i64 (k : Int)] 125)) f M left (.slice (some ⟨sg, 0, none⟩) ns1 cvs) vk (.slice (some ⟨eg, 0, none⟩) es.length ces) (.slice avt1 nt2 cvt1) sts ks es stT told1 vals (Eg S tx A) N) := htw.laid (below_al _ _)
        have HEK : Hid (es[k]? = some (en N pN.2)) := by show _ = _; rw [htw.es, List.getElem?_map, hpN]; rfl
        have hekl : k < es.length := by omega
        obtain ⟨el, helx⟩ : ∃ el, es.length = el := ⟨_, rfl⟩
        have HEL : Hid (es.length = el) := helx
        rw [helx] at HT2 hekl
        clear hst u hsy hty htx0 hpN hmN hel hsetN htw HTW helx hkl
        go_upto_region 13 with fail
        clear p0 p1
        generalize wr.alloc (.cells #[.slice at1 t.length ct1, .int .i64 (k : Int)] 125) = V3 at *
        generalize wr.heap.size = bs at *
        have s0 := cell_of_row _ _ 0 _ _ _ hx
        have s1 := cell_of_row _ _ 1 _ _ _ hx
        have HBX : Hid (V3.heap[bs]? = some (.cells #[.slice at1 t.length ct1, .int .i64 (k : Int)] 125 (0, 0))) := hx
        clear hx
        have f2 := cell_of_row _ _ 2 _ _ _ HT2.out.fr.row
        have hen := HT2.out.fr.ends
        rw [HEL.out] at hen
        have hec := hen.cellAt k (by omega)
        rw [show (es.map Value.bool)[k]? = some (.bool (en N pN.2)) by rw [List.getElem?_map, HEK.out]; rfl] at hec
        obtain ⟨eb, heb⟩ : ∃ eb, en N pN.2 = eb := ⟨_, rfl⟩
        have HEB : Hid (en N pN.2 = eb) := heb
        rw [heb] at hec
        clear heb hen
        cases eb with
        | false =>
          go_wp2
          repeat (go_quiet (fail); go_wp2)
          go_roundw
          case rel => exact ⟨y + 1, _, told1, vals, rfl, by go_num, hlt, by rw [HEL.out]; first | exact HT2.out.laid (below_drewN (Below.refl _ _) _) | exact HT2.out, by rw [HTK.out, ans_up, if_neg (fun h => by have := HAN.out.2 h; rw [HEB.out] at this; cases this), List.append_nil]; exact HTD.out⟩
          case measure => simp [intOf]; omega
        | true =>
          go_wp2
          go_quiet (fail)
          have HT4 : Hid (Tw b1 w (V3.drewN nq) f M left (.slice (some ⟨sg, 0, none⟩) ns1 cvs) vk (.slice (some ⟨eg, 0, none⟩) el ces) (.slice avt1 nt2 cvt1) sts ks es stT told1 vals (Eg S tx A) N) := HT2.out.laid (below_drewN (Below.refl _ _) _)
          have HX4 : Hid (Tx (V3.drewN nq) (.slice at1 t.length ct1) t) := HTX.out.below (below_drewN (Below.refl _ _) _)
          have hbx4 := ((below_drewN (Below.refl V3.heap.size V3) nq).block bs (lt_at HBX.out)).trans HBX.out
          clear s0 s1 f2 hec HT2 HTX HBX
          generalize V3.drewN nq = V4 at *
          have s0 := cell_of_row _ _ 0 _ _ _ hbx4
          clear hbx4
          have hrow4 : V4.ownsRow w.heap.size 26 1 (.slice avt1 nt2 cvt1) nt2 vals := by have := HT4.out.trow; rw [HNT2.out] at this; exact this
          have hsz : w.heap.size ≤ V4.heap.size := HT4.out.below.size
          go_wp2_with (refine wpList_append_own_at _ rfl _ _ 29 rfl w.heap.size 26 i6 (.slice none 0 0) 1 24 Tryd.underlying29 hi6 hx0 hx1 hx2 rfl (by decide) _ _ _ rfl (hrow4.alloc _) ⟨_, 0, none⟩ 1 1 [.slice at1 t.length ct1] rfl rfl (cell_one_new _ _ _) (sl_one _ rfl) (by unfold maxLen; omega) (by omega) (by simp; omega) ?_; intro v5 w5 ho5 hg5 _ hl5; have HN : Hid _ := (HT4.out.laid (below_al V4 (.cells #[.slice at1 t.length ct1] 26))).more (by rw [HNT2.out]; exact ho5) hg5 (HX4.out.below (below_al V4 _)); obtain ⟨gg, cc, rfl, _, _⟩ := own_some ho5 (Nat.succ_pos _); clear ho5 hg5 hl5 hrow4)
          go_roundw
          case rel => exact ⟨y + 1, _, told1 ++ [t], vals ++ [.slice at1 t.length ct1], rfl, by go_num, hlt, by rw [HEL.out]; exact HN.out, by rw [HTK.out, ans_up, if_pos (HAN.out.1 HEB.out), ← List.append_assoc]; rw [HTD.out]⟩
          case measure => simp [intOf]; omega
      · obtain rfl : y = ns1 := by omega
        have HTP : Hid (Tp (Eg S tx A) F (j + 1) told1) := by
          have h1 := HTD.out
          rw [List.take_of_length_le (by rw [List.length_map, ← HNS.out.2.2]; exact Nat.le_of_eq HNS.out.1)] at h1
          show Tp _ _ _ _
          rw [h1]
          exact HFT.out.2.1.next HFT.out.1 (by have := HFT.out.2.2.2.2; omega)
        have HT5 : Hid (nt2 ≤ 500) := hnt500
        clear htw HTD
        by_cases hl0 : left = 0
        · have HL0 : Hid (j = L) := by show j = L; have := HFT.out.2.2.2.2; omega
          have hl0' : ((left : Int) == 0) = true := by simp [hl0]
          clear hl0
          go_wp2
          go_ret2
          exact ⟨HTW.out.below, .inl ⟨_, told1, vals, rfl, HTW.out.trow, HTW.out.tls, out_of (by rw [← HL0.out]; exact HTP.out) (by rw [HNT2.out]; exact HT5.out)⟩⟩
        · obtain ⟨l, hl⟩ : ∃ l, l + 1 = left := ⟨left - 1, by omega⟩
          have HLL : Hid (l + 1 = left) := hl
          obtain ⟨room, hrm, hri⟩ : ∃ room : Nat, room + nt2 = 500 ∧ (500 : Int) - (nt2 : Int) = (room : Int) := ⟨500 - nt2, by omega, by omega⟩
          have HRM : Hid (room + nt2 = 500) := hrm
          have hl0' : ((left : Int) == 0) = false := by simp; omega
          have HJL : Hid (j + (l + 1) = L) := by show _ = _; have := HFT.out.2.2.2.2; omega
          have htw2 := HTW.out
          rw [← hl] at htw2
          have HTW2 : Hid (Tw b1 w wr f M (l + 1) (.slice avs y cvs) vk ve (.slice avt1 nt2 cvt1) sts ks es stT told1 vals (Eg S tx A) N) := htw2
          have K64 := longer_any b1 b2 T S sb ci nb cN M L l f room ai tx A V N F (.slice avs y cvs) vk ve sts ks es stT wr (HALL.out.1.below (htw2.below.mono HALL.out.1.le)) HALL.out.2.1 (Tz.tab_below HALL.out.2.2.1 HALL.out.2.2.2.2 htw2.below) HALL.out.2.2.2.1 htw2.fr (Nat.le_trans HALL.out.1.le htw2.bge) htw2.tx htw2.sem (by have := HJL.out; omega) (by omega) (fun p hp => by have h1 := ((HFT.out.1.mem p.1).1 (List.mem_map.2 ⟨p, hp, rfl⟩)).1; have := HJL.out; omega) (by rw [HNS.out.1]; exact hn500) (by have h1 := HFT.out.2.2.2.1; have h2 := HNS.out; omega)
          rw [hl] at K64
          have HFN : Hid (Fp (Eg S tx A) F L (j + 1) (nxT (Eg S tx A) N l stT)) := fp_next HALL.out.2.2.2.1 HALL.out.2.1.out (fun a ha => (HALL.out.2.1.rgt.arc a ha).2.2.2.1) HJL.out HFT.out.1
          clear htw2 hl hrm hl0 HTW
          by_cases hm : room < (nxT (Eg S tx A) N l stT).length
          · have HM : Hid (room < (nxT (Eg S tx A) N l stT).length) := hm
            have K64a : Calls Tryd.prog 64 #[.pointer (some ⟨T, 0, none⟩), .pointer (some ⟨f, 0, none⟩), .int .i64 (left : Int), .int .i64 (room : Int)] wr fun e w' => e = .returned (.tuple #[.pointer none, .int .i64 7]) ∧ Kp (fun b => ∃ p ∈ ks, p.1.ownBlock = some b) wr w' := K64.mono (fun e w' ⟨h1, h2⟩ => by
              rcases h2 with h2 | ⟨f', vs', vk', ve', sts', ks', es', stT', _, _, _, _, _, h3, h4, _⟩
              · exact ⟨h2.1, h1⟩
              · have := congrArg List.length h3; rw [List.length_map] at this; omega)
            clear K64 hm
            go_wp2_with (go_at_call 64; (with_reducible refine K64a.mono ?_); clear K64a; rintro e w5 ⟨rfl, hk5⟩; have HK5 : Hid (Below w.heap.size w w5) := HTW2.out.kpb hk5; clear hk5)
            go_ret2
            exact ⟨HK5.out, .inr ⟨rfl, out_many HTP.out HFN.out (by have := HJL.out; omega) (by have h1 := HM.out; have h2 := HRM.out; have h3 := HNT2.out; omega)⟩⟩
          · have HM : Hid (¬ room < (nxT (Eg S tx A) N l stT).length) := hm
            have K64b : Calls Tryd.prog 64 #[.pointer (some ⟨T, 0, none⟩), .pointer (some ⟨f, 0, none⟩), .int .i64 (left : Int), .int .i64 (room : Int)] wr fun e w' => ∃ (f' : Nat) (vs' vk' ve' : Value) (sts' : List (Value × Nat)) (ks' : List (Value × List Nat)) (es' : List Bool) (stT' : List (List Int × Nat)), e = .returned (.tuple #[.pointer (some ⟨f', 0, none⟩), .int .i64 0]) ∧ Tw wr.heap.size w w' f' M l vs' vk' ve' (.slice avt1 nt2 cvt1) sts' ks' es' stT' told1 vals (Eg S tx A) N ∧ stT'.map Prod.fst = nxT (Eg S tx A) N l stT ∧ stT'.length ≤ room ∧ ks'.length ≤ stT'.length := K64.mono (fun e w' ⟨h1, h2⟩ => by
              rcases h2 with h2 | ⟨f', vs', vk', ve', sts', ks', es', stT', h3, h4, h5, h6, h7, h8, h9, h10⟩
              · exact absurd h2.2 HM.out
              · exact ⟨f', vs', vk', ve', sts', ks', es', stT', h3, HTW2.out.next h1 h4 h5 h6 h7, h8, h9, h10⟩)
            clear K64 hm
            go_wp2_with (go_at_call 64; (with_reducible refine K64b.mono ?_); clear K64b; rintro e w5 ⟨f', vs', vk', ve', sts', ks', es', stT', rfl, htw5, h85, h95, h105⟩; have HT5' : Hid (Tw wr.heap.size w w5 f' M l vs' vk' ve' (.slice avt1 nt2 cvt1) sts' ks' es' stT' told1 vals (Eg S tx A) N ∧ stT'.map Prod.fst = nxT (Eg S tx A) N l stT ∧ stT'.length ≤ room ∧ ks'.length ≤ stT'.length) := ⟨htw5, h85, h95, h105⟩; clear htw5 h85 h95 h105)
            go_roundw
            case rel => exact ⟨j + 1, l, f', _, vs', vk', ve', _, sts', ks', es', stT', told1, vals, rfl, rfl, congrArg (Value.int .i64) (by have := HLL.out; omega), by have := HJL.out; omega, HT5'.out.1, by rw [HT5'.out.2.1]; exact HFN.out, HTP.out, by have h1 := HT5'.out.2.2.1; have h2 := HRM.out; have h3 := HNT2.out; omega, HT5'.out.2.2.2⟩
            case measure => have := HLL.out; simp [intOf]; omega
end Go.Proofs.YtfjocafepigijaaDoor.Ot
