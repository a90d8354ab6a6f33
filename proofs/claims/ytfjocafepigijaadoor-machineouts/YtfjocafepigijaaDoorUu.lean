/- longer (64) walked: the front of the starts with a symbol more, or that there are too many. Conditions: as in spread; at most 500 starts and sets. -/
import Derived.Test.YtfjocafepigijaaDoorUtM
namespace Go.Proofs.YtfjocafepigijaaDoor.Ot
open Go.RowKit Mv Sy Po Ps Cm Pa Am Wd St Ra Set

theorem inf125 : (Tryd.prog.info? 125).map (fun i => (i.zero, i.size, i.bytes)) = some (some (.agg #[.slice none 0 0, .int .i64 0]), 2, 32) := by kernel_rfl
theorem inf175 : (Tryd.prog.info? 175).map (fun i => (i.zero, i.size, i.bytes)) = some (some (.slice none 0 0), 1, 24) := by kernel_rfl
theorem run_mk174 (n : Nat) (hn : n ≤ 100000) (W : World) : (Instr.makeSlice 174 (.int .i64 (n : Int)) (.int .i64 (n : Int))).run Tryd.prog W = .ok (.slice (some ⟨W.heap.size, 0, none⟩) n n) (W.alloc (.cells (madeCells #[.slice none 0 0] n) 175)) := by
  obtain ⟨i0, hi, hz0, hz1, hz2⟩ := info_parts inf175
  have hr := run_make (P := Tryd.prog) W 174 175 i0 (.slice none 0 0) Tryd.underlying174 hi hz0 .i64 .i64 (n : Int) (n : Int) (by omega) (Int.le_refl _) (by rw [hz2]; omega) (by omega)
  simp only [Int.toNat_natCast, hz1, Nat.mul_one] at hr
  exact hr
theorem own_mk174 (W : World) (base n : Nat) (hb : base ≤ W.heap.size) (hn : n ≤ 100000) : (W.alloc (.cells (madeCells #[.slice none 0 0] n) 175)).ownsRow base 175 1 (.slice (some ⟨W.heap.size, 0, none⟩) n n) n (List.replicate n (.slice none 0 0)) := by
  have e : (madeCells #[.slice none 0 0] n).toList = List.replicate n (.slice none 0 0) := by rw [toList_madeCells_one]
  refine ⟨by simp, .inr ⟨W.heap.size, n, madeCells #[.slice none 0 0] n, rfl, hb, heap_alloc_new _ _, Nat.le_refl _, by unfold maxLen; omega, ?_, ?_⟩⟩
  · rw [← Array.length_toList, e]; simp
  · rw [e]; simp
theorem two_at {α : Type} (g : α → List Value) (hg : ∀ x, (g x).length = 2) : ∀ (l : List α) (k : Nat) (h : k < l.length), (l.flatMap g)[k * 2]? = (g l[k])[0]? ∧ (l.flatMap g)[k * 2 + 1]? = (g l[k])[1]?
  | [], _, h => by simp at h
  | x :: l, 0, _ => by
    rw [List.flatMap_cons]
    constructor
    · rw [List.getElem?_append_left (by rw [hg]; omega)]; rfl
    · rw [List.getElem?_append_left (by rw [hg]; omega)]; rfl
  | x :: l, k + 1, h => by
    have ih := two_at g hg l k (by simpa using h)
    rw [List.flatMap_cons]
    constructor
    · rw [List.getElem?_append_right (by rw [hg]; omega), hg, show (k + 1) * 2 - 2 = k * 2 by omega]; exact ih.1
    · rw [List.getElem?_append_right (by rw [hg]; omega), hg, show (k + 1) * 2 + 1 - 2 = k * 2 + 1 by omega]; exact ih.2
theorem stc_at (l : List (Value × Nat)) (k : Nat) (h : k < l.length) : (stc l)[k * 2]? = some (l[k]).1 ∧ (stc l)[k * 2 + 1]? = some (.int .i64 (((l[k]).2 : Nat) : Int)) := two_at _ (fun _ => rfl) l k h
theorem brc_at (l : List (Nat × Nat)) (k : Nat) (h : k < l.length) : (brc l)[k * 2]? = some (.int .i64 (((l[k]).1 : Nat) : Int)) ∧ (brc l)[k * 2 + 1]? = some (.int .i64 (((l[k]).2 : Nat) : Int)) := two_at _ (fun _ => rfl) l k h
theorem run_mm145 (W : World) : Sem.run Tryd.prog (Instr.makeMap 145 none) W = .ok (.map (some W.heap.size)) (W.alloc (.map #[] 0)) := by kernel_rfl
/-- all starts with a symbol more -/
noncomputable def nxT (E : Int → Nat → Nat → Prop) (N : Nat → Nat) (l : Nat) (T : List (List Int × Nat)) : List (List Int) := T.flatMap fun p => (Bt E N l p.1).map fun (c : Nat) => p.1 ++ [(c : Int)]
def LoQ (E : Int → Nat → Nat → Prop) (N : Nat → Nat) (l M room : Nat) (w : World) (ksN : List (Value × List Nat)) (nowT : List (List Int × Nat)) (e : Ending) (w' : World) : Prop :=
  Kp (fun b => ∃ p ∈ ksN, p.1.ownBlock = some b) w w' ∧ ((e = .returned (.tuple #[.pointer none, .int .i64 7]) ∧ room < (nxT E N l nowT).length) ∨
    ∃ f vs vk ve sts ks es stT, e = .returned (.tuple #[.pointer (some ⟨f, 0, none⟩), .int .i64 0]) ∧ Fr w.heap.size w' f vs vk ve sts ks es M ∧ es = (ks.map fun p => en N p.2) ∧ Txs w' sts stT ∧ Sem E N l stT ks ∧ stT.map Prod.fst = nxT E N l nowT ∧ stT.length ≤ room ∧ ks.length ≤ stT.length)
/-- what is carried from start to start -/
structure Lp (E : Int → Nat → Nat → Prop) (N : Nat → Nat) (l room : Nat) (wr : World) (nowT : List (List Int × Nat)) (sts : List (Value × Nat)) (ks : List (Value × List Nat)) (br : Nat → Option (List (Nat × Nat))) (stT : List (List Int × Nat)) (done : List (List Int)) (slack : Nat) : Prop where
  tx : Txs wr sts stT
  sem : Sem E N l stT ks
  br : ∀ j bl, br j = some bl → BrP E N l nowT ks j bl
  done : stT.map Prod.fst = done
  room : stT.length ≤ room
  few : ks.length ≤ stT.length + slack
theorem Lp.below {E : Int → Nat → Nat → Prop} {N : Nat → Nat} {l room : Nat} {wr w' : World} {nowT : List (List Int × Nat)} {sts : List (Value × Nat)} {ks : List (Value × List Nat)} {br : Nat → Option (List (Nat × Nat))} {stT : List (List Int × Nat)} {done : List (List Int)} {slack : Nat} (h : Lp E N l room wr nowT sts ks br stT done slack) (hb : Below wr.heap.size wr w') : Lp E N l room w' nowT sts ks br stT done slack :=
  ⟨h.tx.kept (kp_below hb (fun _ => False)) (fun _ _ _ => id), h.sem, h.br, h.done, h.room, h.few⟩
theorem Ls.nt2 {b1 : Nat} {w wr : World} {ksN : List (Value × List Nat)} {f mb bb n M : Nat} {vs vk ve : Value} {sts : List (Value × Nat)} {ks : List (Value × List Nat)} {es : List Bool} {Gm : ByteArray → Option Nat} {N : Nat → Nat} {vals : List Value} {br : Nat → Option (List (Nat × Nat))} {pN : Value × List Nat} {j : Nat} (h : Ls b1 w wr ksN f mb bb n M vs vk ve sts ks es Gm N vals br) (hp : ksN[j]? = some pN) (hn : br j = none) {b : Nat} {c : Array Value} {ty : TypeId} (hb : wr.heap[b]? = some (.cells c ty (0, 0))) (h1 : ty ≠ 136) (h2 : ty ≠ 122) (h3 : ty ≠ 77) (h4 : ty ≠ 4) (h5 : ty ≠ 175) : ¬ (pN.1.ownBlock = some b ∨ b = f ∨ b = mb ∨ vk.ownBlock = some b ∨ ve.ownBlock = some b ∨ b = bb) := fun e => by
  have h6 := h.nt hp hn hb h1 h2 h3 h4
  rcases e with e | e | e | e | e | e
  · exact h6 (.inl e)
  · exact h6 (.inr (.inl e))
  · exact h6 (.inr (.inr (.inl e)))
  · exact h6 (.inr (.inr (.inr (.inl e))))
  · exact h6 (.inr (.inr (.inr (.inr e))))
  · subst e
    obtain ⟨d, hd⟩ := own_ty h.brow (k := b) rfl
    exact ty_ne hb hd h5
theorem Bt_len {E : Int → Nat → Nat → Prop} {N : Nat → Nat} {l : Nat} {t : List Int} : (Bt E N l t).length ≤ 61 := Nat.le_trans (List.length_filter_le _ _) (by simp)
theorem start_more {base f M bs : Nat} {wc w7 : World} {vs vk ve v6 : Value} {sts : List (Value × Nat)} {ks : List (Value × List Nat)} {es : List Bool} {tv : Value} {t : List Int} {cb : Array Value} {o : Obj} (h6 : ∀ b, v6.ownBlock = some b → vs.ownBlock = some b ∨ wc.heap.size ≤ b) (hbx : wc.heap[bs]? = some (.cells cb 125 (0, 0))) (htx : Tx wc tv t) (hfr : Fr base wc f vs vk ve sts ks es M) (hvb : vs.ownBlock ≠ some bs) (hk : Kp (fun b => b = f ∨ vs.ownBlock = some b) (wc.alloc o) w7) :
    w7.heap[bs]? = some (.cells cb 125 (0, 0)) ∧ Tx w7 tv t ∧ v6.ownBlock ≠ some bs := by
  have hbx2 := (heap_alloc_old wc o (lt_at hbx)).trans hbx
  have hfr2 := hfr.below (below_al wc o)
  refine ⟨(hk.block bs (lt_at hbx2) (fun e => ?_)).trans hbx2, (htx.below (below_al wc o)).kept hk (fun b cs hb e => ?_), fun e => ?_⟩
  · rcases e with e | e
    · rw [e] at hbx2; exact ty_ne hbx2 hfr2.row (by decide)
    · exact hvb e
  · rcases e with e | e
    · rw [e] at hb; exact ty_ne hb hfr2.row (by decide)
    · obtain ⟨d, hd⟩ := own_ty hfr2.starts e; exact ty_ne hb hd (by decide)
  · rcases h6 bs e with e | e
    · exact hvb e
    · have := lt_at hbx; omega
theorem cell_mid {V w4 : World} {c : Int} (h : Below (V.alloc (.cells #[.int .i64 c] 3)).drew.heap.size (V.alloc (.cells #[.int .i64 c] 3)).drew w4) : ∀ j u, [Value.int .i64 c][j]? = some u → w4.cell? ((⟨V.heap.size, 0, none⟩ : Addr).add j) = some u := fun j u hu => by
  have h1 := cell_one_new V (.int .i64 c) 3 j u hu
  have h2 : V.heap.size < (V.alloc (.cells #[.int .i64 c] 3)).drew.heap.size := lt_at (heap_alloc_new V (.cells #[.int .i64 c] 3))
  have hj : j = 0 := by have := (List.getElem?_eq_some_iff.1 hu).1; simpa using this
  subst hj
  rw [show (⟨V.heap.size, 0, none⟩ : Addr).add 0 = ⟨V.heap.size, 0, none⟩ by simp [Addr.add]] at h1 ⊢
  exact (h.cell (p := ⟨V.heap.size, 0, none⟩) h2).trans h1
theorem cell_two_d (w : World) (g : Nat) (a b : Value) (t : TypeId) (hg : g = w.heap.size) : ∀ j u, [a, b][j]? = some u → (w.alloc (.cells #[a, b] t)).drew.cell? ((⟨g, 0, none⟩ : Addr).add j) = some u := cell_two_at w g a b t hg
theorem two_of (a : Value) (x : Int) (ha : a.oneCell' = true) : ∀ u ∈ [a, Value.int .i64 x], u.oneCell' = true := by
  intro u hu
  simp at hu
  rcases hu with rfl | rfl
  · exact ha
  · rfl
theorem Lp.start {E : Int → Nat → Nat → Prop} {N : Nat → Nat} {l room z nl y c i : Nat} {wr w' : World} {nowT : List (List Int × Nat)} {sts : List (Value × Nat)} {ks : List (Value × List Nat)} {br : Nat → Option (List (Nat × Nat))} {stT : List (List Int × Nat)} {t : List Int} {tv : Value} (h : Lp E N l room wr nowT sts ks br stT (nxT E N l (nowT.take y) ++ ((Bt E N l t).take z).map fun (c : Nat) => t ++ [(c : Int)]) (nl - z)) (hx : Txs w' (sts ++ [(tv, i)]) (stT ++ [(t ++ [(c : Int)], i)])) (hz : z < nl) (hr : stT.length < room) (hc : (Bt E N l t).take (z + 1) = (Bt E N l t).take z ++ [c]) (hs : ∃ q, ks[i]? = some q ∧ ∀ x, mem q.2 x = true ↔ Wr E (t ++ [(c : Int)]) x ∧ N x ≤ l) :
    Lp E N l room w' nowT (sts ++ [(tv, i)]) ks br (stT ++ [(t ++ [(c : Int)], i)]) (nxT E N l (nowT.take y) ++ ((Bt E N l t).take (z + 1)).map fun (c : Nat) => t ++ [(c : Int)]) (nl - (z + 1)) := by
  refine ⟨hx, fun p hp => ?_, h.br, by rw [List.map_append, h.done, hc, List.map_append, ← List.append_assoc]; rfl, by rw [List.length_append, List.length_singleton]; omega, by rw [List.length_append, List.length_singleton]; have := h.few; omega⟩
  rcases List.mem_append.1 hp with hp | hp
  · exact h.sem p hp
  · rw [List.mem_singleton.1 hp]; exact hs
theorem txt_new {V W w5 : World} {u v5 : Value} {t : List Int} {c : Int} (hb : Below V.heap.size V W) (ho : w5.ownsRow V.heap.size 3 1 v5 (t.length + 1) (ints t ++ [.int .i64 c])) (hg : W.grownBy w5 u.ownBlock) (hr : W.ownsRow V.heap.size 3 1 u t.length (ints t)) : (∃ (a : Option Addr) (m : Nat), v5 = .slice a (t.length + 1) m) ∧ Tx w5 v5 (t ++ [c]) ∧ Below V.heap.size V w5 := by
  refine ⟨oslice ho, Tx.own (base := V.heap.size) (by rw [List.length_append, show ints (t ++ [c]) = ints t ++ [.int .i64 c] by simp [ints]]; exact ho) (by simp), hb.grown hg hb.size (fun b hb1 => (hr.lt _ hb1).1)⟩
theorem nxT_up {E : Int → Nat → Nat → Prop} {N : Nat → Nat} {l y : Nat} {T : List (List Int × Nat)} {p : List Int × Nat} (h : T[y]? = some p) : nxT E N l (T.take (y + 1)) = nxT E N l (T.take y) ++ (Bt E N l p.1).map fun (c : Nat) => p.1 ++ [(c : Int)] := by
  obtain ⟨h1, h2⟩ := List.getElem?_eq_some_iff.1 h
  rw [List.take_succ_eq_append_getElem h1, h2]
  simp [nxT]
theorem nxT_len {E : Int → Nat → Nat → Prop} {N : Nat → Nat} {l y : Nat} {T : List (List Int × Nat)} {p : List Int × Nat} (h : T[y]? = some p) : (nxT E N l (T.take y)).length + (Bt E N l p.1).length ≤ (nxT E N l T).length := by
  have h1 := nxT_up (E := E) (N := N) (l := l) h
  have h2 : nxT E N l T = nxT E N l (T.take (y + 1)) ++ nxT E N l (T.drop (y + 1)) := by
    unfold nxT
    rw [← List.flatMap_append, List.take_append_drop]
  rw [h2, h1]
  simp
theorem pair_ap {ks : List (Value × List Nat)} (h : ks.Pairwise fun p q => ∀ b, p.1.ownBlock = some b → q.1.ownBlock ≠ some b) {i j : Nat} {p q : Value × List Nat} (hne : i ≠ j) (h1 : ks[i]? = some p) (h2 : ks[j]? = some q) (b : Nat) (hb : p.1.ownBlock = some b) : q.1.ownBlock ≠ some b := by
  obtain ⟨l1, e1⟩ := List.getElem?_eq_some_iff.1 h1
  obtain ⟨l2, e2⟩ := List.getElem?_eq_some_iff.1 h2
  rw [List.pairwise_iff_getElem] at h
  rcases Nat.lt_or_gt_of_ne hne with hlt | hlt
  · have := h i j l1 l2 hlt
    rw [e1, e2] at this
    exact this b hb
  · intro e
    have := h j i l2 l1 hlt
    rw [e1, e2] at this
    exact this b e hb
theorem Bw.undrew {base : Nat} {w wr : World} {f mb nm M c : Nat} {vS vs vk ve vk0 ve0 : Value} {sts : List (Value × Nat)} {ks : List (Value × List Nat)} {es : List Bool} {Gm : ByteArray → Option Nat} {G : Gt} {N : Nat → Nat} {bl : List (Nat × Nat)} {vb : Value} (h : Bw base w.drew wr f mb nm M c vS vs vk ve vk0 ve0 sts ks es Gm G N bl vb) : Bw base w wr f mb nm M c vS vs vk ve vk0 ve0 sts ks es Gm G N bl vb :=
  ⟨h.fr, h.es, h.mp, h.met, h.gs, h.apart, h.row, h.nn, ⟨h.kp.os, h.kp.tape, h.kp.output, h.kp.size, h.kp.block⟩, h.vk1, h.ve1, h.flt, h.mlt⟩
/-- what a branch call lays, for the starts -/
theorem lp_branch {S : Nat} {tx : List Int} {A : List Arc} {F : List Nat} {N : Nat → Nat} {l room M L k : Nat} {wr w2 : World} {nowT : List (List Int × Nat)} {sts : List (Value × Nat)} {ks ks' : List (Value × List Nat)} {br : Nat → Option (List (Nat × Nat))} {stT : List (List Int × Nat)} {done : List (List Int)} {pN : Value × List Nat} {ksN : List (Value × List Nat)} {C : Nat → Bool} {G : Gt} {bl : List (Nat × Nat)}
    (h : Lp (Eg S tx A) N l room wr nowT sts ks br stT done 0) (hN : Nd (Eg S tx A) F M L N) (hs : Sem (Eg S tx A) N (l + 1) nowT ksN) (hp : ksN[k]? = some pN) (hsd : Sd S tx A N (l + 1) M (mem pN.2) C [] (mg G) none []) (hne : Ne G) (hl : l + 1 ≤ L) (hb : Bq G ks ks' bl 61) (ht : Txs w2 sts stT) : Lp (Eg S tx A) N l room w2 nowT sts ks' (upb br k bl) stT done bl.length := by
  refine ⟨ht, h.sem.mono hb.pre, fun j bl' hj => ?_, h.done, h.room, by have := h.few; have := hb.few; omega⟩
  unfold upb at hj
  split at hj
  · rename_i e
    cases hj
    subst e
    intro t htk
    obtain ⟨q, h1, h2⟩ := hs (t, j) htk
    rw [hp] at h1
    cases h1
    exact bt_of hN hsd hne h2 hl hb
  · exact (h.br j bl' hj).mono hb.pre
set_option maxHeartbeats 8000000 in
set_option maxRecDepth 100000 in
theorem longer_any (b1 b2 T S sb ci nb cN M L l fN room : Nat) (ai : Option Addr) (tx : List Int) (A : List Arc) (V : Nat → Value) (N : Nat → Nat) (F : List Nat) (vsN vkN veN : Value) (stsN : List (Value × Nat)) (ksN : List (Value × List Nat)) (esN : List Bool) (nowT : List (List Int × Nat)) (w : World)
    (hT : Tr b2 w T S sb ci nb cN M ai tx (rws (fun a => a) A) V N) (hF : Fine S tx A M) (hTab : TabAt 0 Lib.deBruijn64tab w) (hNd : Nd (Eg S tx A) F M L N) (hfr : Fr b1 w fN vsN vkN veN stsN ksN esN M) (hb2 : b2 ≤ b1) (htx : Txs w stsN nowT) (hsem : Sem (Eg S tx A) N (l + 1) nowT ksN) (hl : l + 1 ≤ L) (hroom : room ≤ 500) (hlen : ∀ p ∈ nowT, p.1.length ≤ 100) (hsn : stsN.length ≤ 500) (hkn : ksN.length ≤ 500) :
    Calls Tryd.prog 64 #[.pointer (some ⟨T, 0, none⟩), .pointer (some ⟨fN, 0, none⟩), .int .i64 ((l + 1 : Nat) : Int), .int .i64 (room : Int)] w (LoQ (Eg S tx A) N l M room w ksN nowT) := by
  obtain ⟨i5, hi5, hy0, hy1, hy2⟩ := info_parts inf125
  obtain ⟨i3, hi3, hx0, hx1, hx2⟩ := info_parts inf3
  have hmk := run_mk174 ksN.length (by omega)
  obtain ⟨avs, cvs, rfl⟩ := oslice hfr.starts
  obtain ⟨avk, cvk, rfl⟩ := oslice hfr.sets
  have n1 := cell_of_row _ _ 1 _ _ _ hfr.row
  have n0 := cell_of_row _ _ 0 _ _ _ hfr.row
  have hfl := lt_at hfr.row
  have hmm := run_mm145
  obtain ⟨O1, hO1⟩ : ∃ O1 : Obj, Obj.cells #[.slice none 0 0, .slice none 0 0, .slice none 0 0] 122 = O1 := ⟨_, rfl⟩
  have B1 := below_al w O1
  have B2 : Below w.heap.size w ((w.alloc O1).alloc (.map #[] 0)) := B1.alloc B1.size _
  have n11 : ((w.alloc O1).alloc (.map #[] 0)).cell? ⟨fN, 1, none⟩ = some (.slice avk ksN.length cvk) := (B2.cell (p := ⟨fN, 1, none⟩) hfl).trans n1
  have B3 : Below w.heap.size w (((w.alloc O1).alloc (.map #[] 0)).alloc (.cells (madeCells #[.slice none 0 0] ksN.length) 175)) := B2.alloc B2.size _
  have HLS0 : Hid (Ls b1 w (((w.alloc O1).alloc (.map #[] 0)).alloc (.cells (madeCells #[.slice none 0 0] ksN.length) 175)) ksN w.heap.size (w.heap.size + 1) (w.heap.size + 2) ksN.length M (.slice none 0 0) (.slice none 0 0) (.slice none 0 0) [] [] [] (fun _ => none) N (List.replicate ksN.length (.slice none 0 0)) (fun _ => none)) := by
    have s1 : (w.alloc O1).heap.size = w.heap.size + 1 := by simp
    have s2 : ((w.alloc O1).alloc (.map #[] 0)).heap.size = w.heap.size + 2 := by simp
    have hf : (w.alloc O1).heap[w.heap.size]? = some (.cells #[.slice none 0 0, .slice none 0 0, .slice none 0 0] 122 (0, 0)) := by rw [← hO1]; exact heap_alloc_new _ _
    have hb := own_mk174 ((w.alloc O1).alloc (.map #[] 0)) w.heap.size ksN.length B2.size (by omega)
    rw [s2] at hb
    have hm := sm_made (w.alloc O1)
    rw [s1] at hm
    refine ⟨⟨(heap_alloc_old _ _ (by rw [s2]; omega)).trans ((heap_alloc_old _ _ (by rw [s1]; omega)).trans hf), Nat.le_refl _, World.ownsRow_nil _ _ _ _, World.ownsRow_nil _ _ _ _, World.ownsRow_nil _ _ _ _, fun p hp => (by cases hp), List.Pairwise.nil⟩, rfl, hm.kept (heap_alloc_old _ _ (by rw [s2]; omega)), by omega, Met.nil, hb, by simp, fun j hj _ => by simp [hj], fun j bl h => (by cases h), fun j p hp _ => ⟨own_kp2 (hfr.each p (List.mem_of_getElem? hp)).1.1 (kp_below B3 (fun _ => False)) (fun _ _ => id), (hfr.each p (List.mem_of_getElem? hp)).1.2⟩, kp_below B3 _⟩
  have HFL : Hid (fN < w.heap.size) := hfl
  have HALL : Hid (Tr b2 w T S sb ci nb cN M ai tx (rws (fun a => a) A) V N ∧ Fine S tx A M ∧ TabAt 0 Lib.deBruijn64tab w ∧ Nd (Eg S tx A) F M L N ∧ b2 ≤ b1) := ⟨hT, hF, hTab, hNd, hb2⟩
  have HFR : Hid (Fr b1 w fN (.slice avs stsN.length cvs) (.slice avk ksN.length cvk) veN stsN ksN esN M) := hfr
  have HNOW : Hid (Txs w stsN nowT ∧ Sem (Eg S tx A) N (l + 1) nowT ksN ∧ (∀ p ∈ nowT, p.1.length ≤ 100)) := ⟨htx, hsem, hlen⟩
  have HO1 : Hid (Obj.cells #[.slice none 0 0, .slice none 0 0, .slice none 0 0] 122 = O1) := hO1
  have n00 := (B3.cell (p := ⟨fN, 0, none⟩) hfl).trans n0
  clear hT hF hTab hNd hfr hb2 htx hsem hlen B1 B2 B3 n0 n1
  obtain ⟨lf, hlf⟩ : ∃ lf : Nat, l + 1 = lf := ⟨_, rfl⟩
  have HLF : Hid (l + 1 = lf) := hlf
  rw [hlf]
  clear hlf
  go_enter Tryd.func64, Tryd.ntmps64
  go_upto_region 4 with fail
  rw [show w.heap.size + 1 + 1 = w.heap.size + 2 from rfl]
  obtain ⟨bb, hbb⟩ : ∃ bb, w.heap.size + 2 = bb := ⟨_, rfl⟩
  obtain ⟨mb, hmb⟩ : ∃ mb, w.heap.size + 1 = mb := ⟨_, rfl⟩
  obtain ⟨f, hf⟩ : ∃ f, w.heap.size = f := ⟨_, rfl⟩
  rw [hbb, hmb, hf] at HLS0
  rw [hbb, hmb, hf]
  clear hbb hmb hf hmk hmm n11
  generalize ((w.alloc O1).alloc (.map #[] 0)).alloc (.cells (madeCells #[.slice none 0 0] ksN.length) 175) = W3 at *
  go_wp2
  go_loopw [32] (fun a wr => ∃ (y : Nat) (vs vk ve : Value) (sts : List (Value × Nat)) (ks : List (Value × List Nat)) (es : List Bool) (Gm : ByteArray → Option Nat) (vals : List Value) (br : Nat → Option (List (Nat × Nat))) (stT : List (List Int × Nat)), a = .int .i64 y ∧ y ≤ stsN.length ∧ Ls b1 w wr ksN f mb bb ksN.length M vs vk ve sts ks es Gm N vals br ∧ Lp (Eg S tx A) N l room wr nowT sts ks br stT (nxT (Eg S tx A) N l (nowT.take y)) 0) (fun a _ => stsN.length - (intOf a).toNat)
  case atStart => exact ⟨0, _, _, _, [], [], [], _, _, _, [], rfl, Nat.zero_le _, HLS0.out, ⟨⟨rfl, fun m v k h => by simp at h⟩, fun p h => (by cases h), fun j bl h => (by cases h), rfl, Nat.zero_le _, Nat.le_refl _⟩⟩
  case round =>
    clear HLS0 n00
    obtain ⟨y, vs, vk, ve, sts, ks, es, Gm, vals, br, stT, rfl, hy, hls, hlp⟩ := hrel
    have HLS : Hid (Ls b1 w wr ksN f mb bb ksN.length M vs vk ve sts ks es Gm N vals br) := hls
    have HLP : Hid (Lp (Eg S tx A) N l room wr nowT sts ks br stT (nxT (Eg S tx A) N l (nowT.take y)) 0) := hlp
    by_cases hlt : y < stsN.length
    · obtain ⟨tv, k, hsy⟩ : ∃ tv k, stsN[y] = (tv, k) := ⟨_, _, rfl⟩
      have hsy' : stsN[y]? = some (tv, k) := by rw [List.getElem?_eq_getElem hlt, hsy]
      obtain ⟨t, hty, htx0⟩ := HNOW.out.1.2 y tv k hsy'
      obtain ⟨pN, hpN, hmN⟩ := HNOW.out.2.1 (t, k) (List.mem_of_getElem? hty)
      have hkn' : k < ksN.length := (List.getElem?_eq_some_iff.1 hpN).1
      have nS : ∀ {b : Nat} {c : Array Value} {ty : TypeId}, w.heap[b]? = some (.cells c ty (0, 0)) → ty ≠ 136 → ¬ ∃ p ∈ ksN, p.1.ownBlock = some b := fun {b c ty} hb hne ⟨p, hp, e⟩ => by
        obtain ⟨d, hd⟩ := own_ty (HFR.out.each p hp).1.1 e
        exact ty_ne hb hd hne
      have hvs : wr.ownsRow b1 125 2 (.slice avs stsN.length cvs) stsN.length (stc stsN) := own_kp2 HFR.out.starts hls.kp (fun b hb => by obtain ⟨d, hd⟩ := own_ty HFR.out.starts hb; exact nS hd (by decide))
      obtain ⟨sg, sc, hve, _, _⟩ := own_some hvs (by omega)
      rw [Value.slice.injEq] at hve
      obtain ⟨ha1, _, ha2⟩ := hve
      subst ha1 ha2
      have u := stc_at stsN y hlt
      rw [hsy] at u
      have p0 := (hvs.cellAt (y * 2) (by omega)).trans u.1
      have p1 := (hvs.cellAt (y * 2 + 1) (by omega)).trans u.2
      obtain ⟨at1, ct1, rfl, _⟩ := (id htx0 : Tx w tv t)
      dsimp only at p0 p1
      have HTX : Hid (Tx wr (.slice at1 t.length ct1) t) := htx0.kept hls.kp (fun b cs hb => nS hb (by decide))
      have HY : Hid (nowT[y]? = some (t, k) ∧ ksN[k]? = some pN ∧ (∀ x, mem pN.2 x = true ↔ Wr (Eg S tx A) t x ∧ N x ≤ l + 1)) := ⟨hty, hpN, hmN⟩
      have HTL : Hid (t.length ≤ 100) := HNOW.out.2.2 (t, k) (List.mem_of_getElem? hty)
      have hx := heap_alloc_new wr (.cells #[.slice at1 t.length ct1, .int .i64 (k : Int)] 125)
      have HL1 : Hid (Ls b1 w (wr.alloc (.cells #[.slice at1 t.length ct1, .int .i64 (k : Int)] 125)) ksN f mb bb ksN.length M vs vk ve sts ks es Gm N vals br) := hls.below (below_al _ _)
      have HP1 : Hid (Lp (Eg S tx A) N l room (wr.alloc (.cells #[.slice at1 t.length ct1, .int .i64 (k : Int)] 125)) nowT sts ks br stT (nxT (Eg S tx A) N l (nowT.take y)) 0) := hlp.below (below_al _ _)
      have HT1 : Hid (Tx (wr.alloc (.cells #[.slice at1 t.length ct1, .int .i64 (k : Int)] 125)) (.slice at1 t.length ct1) t) := HTX.out.below (below_al _ _)
      have HKN : Hid (k < ksN.length) := hkn'
      have HVB : Hid (vs.ownBlock ≠ some wr.heap.size) := fun e => Nat.lt_irrefl _ (hls.fr.starts.lt _ e).2
      clear hls hlp hsy hsy' hty htx0 hpN hmN hvs u HLS HLP HTX nS
      go_upto_region 7 with fail
      clear p0 p1
      generalize hV2 : wr.alloc (.cells #[.slice at1 t.length ct1, .int .i64 (k : Int)] 125) = V2 at *
      clear hV2
      generalize wr.heap.size = bs at *
      have s0 := cell_of_row _ _ 0 _ _ _ hx
      have s1 := cell_of_row _ _ 1 _ _ _ hx
      have HBX : Hid (V2.heap[bs]? = some (.cells #[.slice at1 t.length ct1, .int .i64 (k : Int)] 125 (0, 0))) := hx
      clear hx
      have hcb := HL1.out.brow.cellAt k (by omega)
      cases hbk : br k with
      | none =>
        rw [HL1.out.vnil k hkn' hbk] at hcb
        have q1 := eql175n
        have HBK : Hid (br k = none) := hbk
        clear hbk
        go_upto_region 8 with fail
        have hPc : V2.cell? ⟨fN, 1, none⟩ = some (.slice avk ksN.length cvk) := cell_of_row _ _ 1 _ _ _ ((HL1.out.kp.block fN HFL.out (fun ⟨p, hp, e⟩ => by obtain ⟨d, hd⟩ := own_ty (HFR.out.each p hp).1.1 e; exact ty_ne hd HFR.out.row (by decide))).trans HFR.out.row)
        obtain ⟨kg, kc, hke, hkg1, _⟩ := own_some HFR.out.sets (by omega)
        rw [Value.slice.injEq] at hke
        obtain ⟨e1, _, e2⟩ := hke
        subst e1 e2
        have hks0 : V2.ownsRow b1 77 1 (.slice (some ⟨kg, 0, none⟩) ksN.length cvk) ksN.length (ksN.map Prod.fst) := own_kp2 HFR.out.sets HL1.out.kp (fun b hb ⟨p, hp, e⟩ => by obtain ⟨d, hd⟩ := own_ty HFR.out.sets hb; obtain ⟨d', hd'⟩ := own_ty (HFR.out.each p hp).1.1 e; exact ty_ne hd hd' (by decide))
        have hkc := hks0.cellAt k (by omega)
        rw [show (ksN.map Prod.fst)[k]? = some pN.1 by rw [List.getElem?_map, HY.out.2.1]; rfl] at hkc
        have hpm : pN ∈ ksN := List.mem_of_getElem? HY.out.2.1
        obtain ⟨pg, pc, hpe, _, _⟩ := own_some (HFR.out.each pN hpm).1.1 (by rw [(HFR.out.each pN hpm).2]; have := HALL.out.2.2.2.1.pos; omega)
        have HPE : Hid (pN.1 = .slice (some ⟨pg, 0, none⟩) pN.2.length pc) := hpe
        rw [hpe] at hkc
        have HLT : Hid (∀ p ∈ ksN, ∀ b, p.1.ownBlock = some b → b < w.heap.size ∧ b2 ≤ b) := fun p hp b hb => ⟨((HFR.out.each p hp).1.1.lt _ hb).2, Nat.le_trans HALL.out.2.2.2.2 ((HFR.out.each p hp).1.1.lt _ hb).1⟩
        have HAP : Hid (∀ (i i' : Nat) (p q : Value × List Nat), i ≠ i' → ksN[i]? = some p → ksN[i']? = some q → ∀ b, p.1.ownBlock = some b → q.1.ownBlock ≠ some b) := fun i i' p q hne h1 h2 b hb e => pair_ap HFR.out.apart hne h1 h2 b hb e
        have K91 : ∀ W, Below V2.heap.size V2 W → Calls Tryd.prog 91 #[.pointer (some ⟨T, 0, none⟩), pN.1, .int .i64 ((l + 1 : Nat) : Int), .pointer (some ⟨f, 0, none⟩), .map (some mb)] W (BrQ w.heap.size W S M (l + 1) f mb tx A N pN.1 pN.2 vs vk ve sts ks) := fun W hb => by
          have h := HL1.out.below hb
          exact branch_any w.heap.size b2 b1 T S sb ci nb cN M (l + 1) f mb ai tx A V N pN.1 pN.2 vs vk ve sts ks es Gm W (tr_kp HALL.out.1 h.kp (fun b ⟨p, hp, e⟩ => (HLT.out p hp b e).2)) HALL.out.2.1 (tab_kp HALL.out.2.2.1 (Nat.lt_of_le_of_lt (Nat.zero_le _) HFL.out) h.kp (fun ⟨p, hp, e⟩ => by have := (HLT.out p hp 0 e).2; have := HALL.out.1.tlt; omega)) (h.sets k pN HY.out.2.1 HBK.out) (HFR.out.each pN hpm).2 (fun b e => ⟨(HLT.out pN hpm b e).2, (HLT.out pN hpm b e).1⟩) (fun v hv => HALL.out.2.2.2.1.wr ((HY.out.2.2 v).1 hv).1) h.fr h.es h.mp h.met HALL.out.1.le h.kp.size h.mge (by have := HP1.out.few; have := HP1.out.room; omega)
        rw [hpe, HLF.out] at K91
        obtain ⟨lp, hlp⟩ : ∃ lp, pN.2.length = lp := ⟨_, rfl⟩
        rw [hlp] at K91 hkc HPE
        clear hlp hpe hks0
        go_cut [] from 42 to 59 (fun wx => ∃ (vk' ve' : Value) (ks' : List (Value × List Nat)) (es' : List Bool) (Gm' : ByteArray → Option Nat) (vals' : List Value) (bl : List (Nat × Nat)), Ls b1 w wx ksN f mb bb ksN.length M vs vk' ve' sts ks' es' Gm' N vals' (upb br k bl) ∧ Lp (Eg S tx A) N l room wx nowT sts ks' (upb br k bl) stT (nxT (Eg S tx A) N l (nowT.take y)) bl.length ∧ wx.heap[bs]? = some (.cells #[.slice at1 t.length ct1, .int .i64 (k : Int)] 125 (0, 0)) ∧ Tx wx (.slice at1 t.length ct1) t)
        case first =>
          go_region_with (go_at_call 91; refine (K91 _ (below_drewN (Below.refl _ _) 1)).mono ?_; rintro e w3 ⟨vb, ws3, G3, nm3, vk3, ve3, ks3, es3, Gm3, bl3, rfl, hsd3, hne3, hbw3, hbq3, hnm3⟩; obtain ⟨a3, n3, k3, hvb3⟩ := hbw3.nn; obtain ⟨a3', k3', hvb3'⟩ := oslice hbw3.row; subst hvb3; rw [Value.slice.injEq] at hvb3'; obtain ⟨z1, z2, z3⟩ := hvb3'; subst z2; clear z1 z3; rw [← HPE.out] at hbw3; rw [← HLF.out] at hsd3; have h3 := HL1.out.branch HY.out.2.1 HBK.out HKN.out (fun p hp b hb => (HLT.out p hp b hb).1) HAP.out hbw3.undrew hnm3 HP1.out.tx; have HR3 : Hid _ := h3.2; have g1 := h3.1.1; have g2 := h3.1.2; have HSD3 : Hid _ := lp_branch HP1.out HALL.out.2.2.2.1 HNOW.out.2.1 HY.out.2.1 hsd3 hne3 hl hbq3 h3.2.2.1; have d1 : w3.cell? ⟨bs, 1, none⟩ = some (.int .i64 (k : Int)) := cell_of_row _ _ 1 _ _ _ ((hbw3.undrew.kp.block bs (lt_at HBX.out) (HL1.out.nt HY.out.2.1 HBK.out HBX.out (by decide) (by decide) (by decide) (by decide))).trans HBX.out); clear h3 hsd3 hne3 hbw3 hbq3 hnm3)
          all_goals (go_wp2_with fail; go_meet)
          all_goals exact ⟨vk3, ve3, ks3, es3, Gm3, _, bl3, HR3.out.1, HSD3.out, (HR3.out.2.2.block bs (lt_at HBX.out) (HL1.out.nt2 HY.out.2.1 HBK.out HBX.out (by decide) (by decide) (by decide) (by decide) (by decide))).trans HBX.out, HT1.out.kept HR3.out.2.2 (fun b cs hb => HL1.out.nt2 HY.out.2.1 HBK.out hb (by decide) (by decide) (by decide) (by decide) (by decide))⟩
        case rest =>
        obtain ⟨vk, ve, ks, es, Gm, vals, bl, hls, hlp, hbx, htx⟩ := hcut
        have HLS : Hid (Ls b1 w wc ksN f mb bb ksN.length M vs vk ve sts ks es Gm N vals (upb br k bl)) := hls
        have HLP : Hid (Lp (Eg S tx A) N l room wc nowT sts ks (upb br k bl) stT (nxT (Eg S tx A) N l (nowT.take y)) bl.length) := hlp
        have HTX : Hid (Tx wc (.slice at1 t.length ct1) t) := htx
        have HBK2 : Hid (upb br k bl k = some bl) := by show upb br k bl k = some bl; unfold upb; rw [if_pos rfl]
        clear HL1 HP1 HT1 HBX hcb s0 s1 hls hlp htx K91 hPc hkc HBK
        have HBX : Hid (wc.heap[bs]? = some (.cells #[.slice at1 t.length ct1, .int .i64 (k : Int)] 125 (0, 0))) := hbx
        clear hbx
        generalize upb br k bl = br2 at *
        obtain ⟨ba, bm, hva, hrow0⟩ := HLS.out.vbr k bl HBK2.out
        have hcb := (HLS.out.brow.cellAt k (by omega)).trans hva
        have s0 := cell_of_row _ _ 0 _ _ _ HBX.out
        have s1 := cell_of_row _ _ 1 _ _ _ HBX.out
        have HVA : Hid (vals[k]? = some (.slice (some ba) bl.length bm)) := hva
        have hbp := (HLP.out.br k bl HBK2.out) t (List.mem_of_getElem? HY.out.1)
        have HBP : Hid (bl.map Prod.fst = Bt (Eg S tx A) N l t ∧ ∀ p ∈ bl, ∃ q, ks[p.2]? = some q ∧ ∀ x, mem q.2 x = true ↔ Wr (Eg S tx A) (t ++ [(p.1 : Int)]) x ∧ N x ≤ l) := hbp
        obtain ⟨nl, hnl⟩ : ∃ nl, bl.length = nl := ⟨_, rfl⟩
        have HNL : Hid (bl.length = nl) := hnl
        have hn61 : nl ≤ 61 := by
          have h := congrArg List.length hbp.1
          rw [List.length_map, hnl] at h
          rw [h]
          exact Bt_len
        rw [hnl] at hcb
        clear hva hrow0 hbp hnl
        skip
        go_upto_region 10 with fail
        clear hcb s0 s1
        go_loopw [65] (fun a wr => ∃ (z : Nat) (vs : Value) (sts : List (Value × Nat)) (stT : List (List Int × Nat)), a = .int .i64 z ∧ z ≤ nl ∧ Ls b1 w wr ksN f mb bb ksN.length M vs vk ve sts ks es Gm N vals br2 ∧ Lp (Eg S tx A) N l room wr nowT sts ks br2 stT (nxT (Eg S tx A) N l (nowT.take y) ++ ((Bt (Eg S tx A) N l t).take z).map fun (c : Nat) => t ++ [(c : Int)]) (nl - z) ∧ wr.heap[bs]? = some (.cells #[.slice at1 t.length ct1, .int .i64 (k : Int)] 125 (0, 0)) ∧ Tx wr (.slice at1 t.length ct1) t ∧ vs.ownBlock ≠ some bs) (fun a _ => nl - (intOf a).toNat)
        case atStart => exact ⟨0, vs, sts, stT, rfl, Nat.zero_le _, HLS.out, ⟨HLP.out.tx, HLP.out.sem, HLP.out.br, by rw [HLP.out.done]; simp, HLP.out.room, by have := HLP.out.few; have := HNL.out; omega⟩, HBX.out, HTX.out, HVB.out⟩
        case round =>
          clear HLS HLP HBX HTX HVB
          obtain ⟨z, vs, sts, stT, rfl, hz, hls, hlp, hbx, htx, hvb⟩ := hrel
          have HVB : Hid (vs.ownBlock ≠ some bs) := hvb
          clear hvb
          have HLS : Hid (Ls b1 w wr ksN f mb bb ksN.length M vs vk ve sts ks es Gm N vals br2) := hls
          have HLP : Hid (Lp (Eg S tx A) N l room wr nowT sts ks br2 stT (nxT (Eg S tx A) N l (nowT.take y) ++ ((Bt (Eg S tx A) N l t).take z).map fun (c : Nat) => t ++ [(c : Int)]) (nl - z)) := hlp
          have HBX : Hid (wr.heap[bs]? = some (.cells #[.slice at1 t.length ct1, .int .i64 (k : Int)] 125 (0, 0))) := hbx
          have HTX : Hid (Tx wr (.slice at1 t.length ct1) t) := htx
          by_cases hlz : z < nl
          · obtain ⟨a', m', e1, e2⟩ := hls.vbr k bl HBK2.out
            rw [HVA.out] at e1
            simp only [Option.some.injEq, Value.slice.injEq] at e1
            obtain ⟨ea, _, em⟩ := e1
            subst ea em
            have hzb : z < bl.length := by rw [HNL.out]; exact hlz
            obtain ⟨bg, bcap, hbe, _, _⟩ := own_some e2 (by omega)
            simp only [Value.slice.injEq, Option.some.injEq] at hbe
            obtain ⟨ea, _, em⟩ := hbe
            subst ea em
            obtain ⟨c, i, hci⟩ : ∃ c i, bl[z] = (c, i) := ⟨_, _, rfl⟩
            have u := brc_at bl z hzb
            rw [hci] at u
            have p0 := (e2.cellAt (z * 2) (by omega)).trans u.1
            have p1 := (e2.cellAt (z * 2 + 1) (by omega)).trans u.2
            dsimp only at p0 p1
            have HCI : Hid ((c, i) ∈ bl ∧ (Bt (Eg S tx A) N l t).take (z + 1) = (Bt (Eg S tx A) N l t).take z ++ [c] ∧ z < (Bt (Eg S tx A) N l t).length) := by
              have hlb : z < (Bt (Eg S tx A) N l t).length := by rw [← HBP.out.1, List.length_map]; exact hzb
              have hcz : (Bt (Eg S tx A) N l t)[z]'hlb = c := by
                have : (bl.map Prod.fst)[z]? = some c := by rw [List.getElem?_map, List.getElem?_eq_getElem hzb, hci]; rfl
                rw [HBP.out.1, List.getElem?_eq_getElem hlb] at this
                injection this
              exact ⟨hci ▸ List.getElem_mem hzb, by rw [List.take_succ_eq_append_getElem hlb, hcz], hlb⟩
            obtain ⟨av2, cv2, rfl⟩ := oslice hls.fr.starts
            have hx := heap_alloc_new wr (.cells #[.int .i64 (c : Int), .int .i64 (i : Int)] 178)
            have HL2 : Hid (Ls b1 w (wr.alloc (.cells #[.int .i64 (c : Int), .int .i64 (i : Int)] 178)) ksN f mb bb ksN.length M (.slice av2 sts.length cv2) vk ve sts ks es Gm N vals br2) := hls.below (below_al _ _)
            have HP2 : Hid (Lp (Eg S tx A) N l room (wr.alloc (.cells #[.int .i64 (c : Int), .int .i64 (i : Int)] 178)) nowT sts ks br2 stT (nxT (Eg S tx A) N l (nowT.take y) ++ ((Bt (Eg S tx A) N l t).take z).map fun (c : Nat) => t ++ [(c : Int)]) (nl - z)) := hlp.below (below_al _ _)
            have HB2 : Hid ((wr.alloc (.cells #[.int .i64 (c : Int), .int .i64 (i : Int)] 178)).heap[bs]? = some (.cells #[.slice at1 t.length ct1, .int .i64 (k : Int)] 125 (0, 0))) := (heap_alloc_old _ _ (lt_at hbx)).trans hbx
            have HT2 : Hid (Tx (wr.alloc (.cells #[.int .i64 (c : Int), .int .i64 (i : Int)] 178)) (.slice at1 t.length ct1) t) := htx.below (below_al _ _)
            have hsl : sts.length = stT.length := hlp.tx.1
            have HSL : Hid (sts.length = stT.length) := hsl
            obtain ⟨ns1, hns⟩ : ∃ ns1, sts.length = ns1 := ⟨_, rfl⟩
            have HNS : Hid (sts.length = ns1) := hns
            rw [hns] at HL2 HVB
            clear hls hlp hbx htx e2 u hci hsl hns HLS HLP HBX HTX
            go_upto_region 12 with fail
            clear p0 p1
            generalize hV3 : wr.alloc (.cells #[.int .i64 (c : Int), .int .i64 (i : Int)] 178) = V3 at *
            clear hV3
            generalize wr.heap.size = bq at *
            have f0 := cell_of_row _ _ 0 _ _ _ HL2.out.fr.row
            by_cases hrm : ns1 = room
            · have HRM : Hid (ns1 = room) := hrm
              have hrm' : ((ns1 : Int) == (room : Int)) = true := by simp [hrm]
              clear hrm
              go_wp2
              go_ret2
              refine ⟨HL2.out.kp, .inl ⟨rfl, ?_⟩⟩
              have h1 := congrArg List.length HP2.out.done
              rw [List.length_map, List.length_append, List.length_map, List.length_take] at h1
              have h2 := nxT_len (E := Eg S tx A) (N := N) (l := l) HY.out.1
              have h3 := HCI.out.2.2
              have h4 := HSL.out
              have h5 := HNS.out
              have h6 := HRM.out
              dsimp only at h2
              omega
            · have HRM : Hid (¬ ns1 = room) := hrm
              have hrm' : ((ns1 : Int) == (room : Int)) = false := by simp; omega
              have K92 : ∀ W, Below V3.heap.size V3 W → Calls Tryd.prog 92 #[.slice at1 t.length ct1] W fun e w' => ∃ u, e = .returned u ∧ w'.ownsRow V3.heap.size 3 1 u t.length (ints t) ∧ Below V3.heap.size V3 w' ∧ Below W.heap.size W w' := fun W hb => (clone_any (.slice at1 t.length ct1) t W (HT2.out.below hb) (Nat.le_trans HTL.out (by decide))).mono (fun e w' ⟨u, h1, h2, h3⟩ => ⟨u, h1, own_low h2 hb.size, hb.trans (h3.mono hb.size), h3⟩)
              have q0 := cell_of_row _ _ 0 _ _ _ hx
              have q1 := cell_of_row _ _ 1 _ _ _ hx
              have HQX : Hid (V3.heap[bq]? = some (.cells #[.int .i64 (c : Int), .int .i64 (i : Int)] 178 (0, 0))) := hx
              have r0 := cell_of_row _ _ 0 _ _ _ HB2.out
              have r00 : ∀ o, (V3.alloc o).cell? ⟨bs, 0, none⟩ = some (.slice at1 t.length ct1) := fun o => cell_of_row _ _ 0 _ _ _ ((heap_alloc_old _ _ (lt_at HB2.out)).trans HB2.out)
              have htl : t.length ≤ 100 := HTL.out
              clear hrm hx
              go_upto_region 14 with fail
              clear f0
              go_cut [17] from 76 to 83 (fun s17 wx => ∃ (a : Option Addr) (m : Nat), s17 = .slice a (t.length + 1) m ∧ Tx wx (.slice a (t.length + 1) m) (t ++ [(c : Int)]) ∧ Below V3.heap.size V3 wx)
              case first =>
                go_region_law (first
                  | (go_simp; refine (K92 _ (by first | exact below_drewN (Below.refl _ _) 1 | exact (below_al V3 _).drew | exact (below_drewN (Below.refl _ _) 1).alloc (Nat.le_refl _) _)).mono ?_; rintro e w4 ⟨u, rfl, hr4, hb4, hw4⟩; have HW4 : Hid _ := hw4; clear hw4; have HR4 : Hid (w4.ownsRow V3.heap.size 3 1 u t.length (ints t) ∧ Below V3.heap.size V3 w4) := ⟨hr4, hb4⟩; clear hr4 hb4; have d0 : w4.cell? ⟨bq, 0, none⟩ = some (.int .i64 (c : Int)) := cell_of_row _ _ 0 _ _ _ ((HR4.out.2.block bq (lt_at HQX.out)).trans HQX.out); dsimp only)
                  | (refine step_append_at rfl (.tmp 78) (.tmp 81) 26 rfl V3.heap.size 3 i3 (.int .i64 0) 1 8 Tryd.underlying26 hi3 hx0 hx1 hx2 rfl (by decide) _ _ _ rfl (HR4.out.1.alloc _) ⟨_, 0, none⟩ 1 1 [.int .i64 (c : Int)] rfl rfl (cell_one_new _ _ _) (sl_one _ rfl) (by unfold maxLen; omega) (by omega) (le_al HR4.out.2.size) ?_; intro v5 w5 ho5 hg5 hl5; have HN5 : Hid _ := txt_new (HR4.out.2.alloc HR4.out.2.size (.cells #[.int .i64 (c : Int)] 3)) ho5 hg5 (HR4.out.1.alloc (.cells #[.int .i64 (c : Int)] 3)); obtain ⟨⟨ga, gm, hga⟩, z1, z2⟩ := HN5.out; clear z1 z2 ho5 hg5 hl5; subst hga)
                  | (refine step_append_at rfl (.tmp 78) (.tmp 81) 26 rfl V3.heap.size 3 i3 (.int .i64 0) 1 8 Tryd.underlying26 hi3 hx0 hx1 hx2 rfl (by decide) _ _ _ rfl HR4.out.1 ⟨_, 0, none⟩ 1 1 [.int .i64 (c : Int)] rfl rfl (cell_mid HW4.out) (sl_one _ rfl) (by unfold maxLen; omega) (by omega) HR4.out.2.size ?_; intro v5 w5 ho5 hg5 hl5; have HN5 : Hid _ := txt_new HR4.out.2 ho5 hg5 HR4.out.1; obtain ⟨⟨ga, gm, hga⟩, z1, z2⟩ := HN5.out; clear z1 z2 ho5 hg5 hl5; subst hga))
                all_goals (go_wp2_with fail; go_meet)
                all_goals exact ⟨_, _, rfl, HN5.out.2.1, HN5.out.2.2⟩
              case rest =>
              obtain ⟨ga, gm, rfl, hTn, hBn⟩ := hcut
              have HLn : Hid (Ls b1 w wc ksN f mb bb ksN.length M (.slice av2 ns1 cv2) vk ve sts ks es Gm N vals br2) := HL2.out.below hBn
              have HPn : Hid (Lp (Eg S tx A) N l room wc nowT sts ks br2 stT (nxT (Eg S tx A) N l (nowT.take y) ++ ((Bt (Eg S tx A) N l t).take z).map fun (c : Nat) => t ++ [(c : Int)]) (nl - z)) := HP2.out.below hBn
              have HBn : Hid (wc.heap[bs]? = some (.cells #[.slice at1 t.length ct1, .int .i64 (k : Int)] 125 (0, 0))) := (hBn.block _ (lt_at HB2.out)).trans HB2.out
              have HTn : Hid (Tx wc (.slice ga (t.length + 1) gm) (t ++ [(c : Int)]) ∧ Tx wc (.slice at1 t.length ct1) t) := ⟨hTn, HT2.out.below hBn⟩
              have hqn := (hBn.block _ (lt_at HQX.out)).trans HQX.out
              have q1n := cell_of_row _ _ 1 _ _ _ hqn
              have f0 := cell_of_row _ _ 0 _ _ _ HLn.out.fr.row
              have f00 : ∀ o, (wc.alloc o).cell? ⟨f, 0, none⟩ = some (.slice av2 ns1 cv2) := fun o => cell_of_row _ _ 0 _ _ _ (HLn.out.below (below_al wc o)).fr.row
              have HNB : Hid (ns1 < room ∧ ns1 ≤ 500) := by
                have h1 := HPn.out.room
                have h2 := HSL.out
                have h3 := HNS.out
                have h4 := HRM.out
                exact ⟨by omega, by omega⟩
              have HWS : Hid (w.heap.size ≤ wc.heap.size) := HLn.out.kp.size
              have hst0 : Hid (wc.ownsRow w.heap.size 125 2 (.slice av2 ns1 cv2) ns1 (stc sts)) := by have := HLn.out.fr.starts; rw [HNS.out] at this; exact this
              have HLT2 : Hid (∀ p ∈ ksN, ∀ b, p.1.ownBlock = some b → b < w.heap.size) := fun p hp b hb => ((HFR.out.each p hp).1.1.lt _ hb).2
              clear hTn hBn hqn HL2 HP2 HB2 HT2 HQX K92 q0 q1 r0 r00
              go_upto_region 15 with fail
              refine wp_region_noPanic ?_
              go_region_law (refine step_append_at rfl (.tmp 87) (.tmp 92) 119 rfl w.heap.size 125 i5 (.agg #[.slice none 0 0, .int .i64 0]) 2 32 Tryd.underlying119 hi5 hy0 hy1 hy2 rfl (by decide) _ _ _ rfl (hst0.out.alloc _).drew ⟨_, 0, none⟩ 1 1 [.slice ga (t.length + 1) gm, .int .i64 (i : Int)] rfl rfl (cell_two_d _ _ _ _ _ (by simp)) (two_of _ _ rfl) (by have := HNB.out.2; unfold maxLen; omega) (by have := HNB.out.2; omega) (by have := HWS.out; simp; omega) ?_; intro v6 w6 ho6 hg6 hl6; obtain ⟨g6, c6, rfl, _, _⟩ := own_some ho6 (Nat.succ_pos _); have hfr6 := (HLn.out.fr.below (below_al wc (.cells #[.slice ga (t.length + 1) gm, .int .i64 (i : Int)] 125))).f1 (hst0.out.alloc _) (by decide) (grown_undrew hg6); have z2 := cell_of_row _ _ 0 _ _ _ hfr6; have z3 := frozen_of_row _ _ 0 _ _ hfr6; have HN6 : Hid _ := (HLn.out.below (below_al wc (.cells #[.slice ga (t.length + 1) gm, .int .i64 (i : Int)] 125))).start (by rw [HNS.out]; exact ho6) (grown_undrew hg6) (HPn.out.below (below_al wc (.cells #[.slice ga (t.length + 1) gm, .int .i64 (i : Int)] 125))).tx (HTn.out.1.below (below_al wc _)) HLT2.out; have HZ6 : Hid _ := start_more (vs := .slice av2 ns1 cv2) (own_new hl6 (below_al wc (.cells #[.slice ga (t.length + 1) gm, .int .i64 (i : Int)] 125)).size) HBn.out HTn.out.2 HLn.out.fr HVB.out HN6.out.2.2; clear ho6 hg6 hl6 hfr6)
              all_goals refine NoPanic.normal ?_
              all_goals go_wp2_with fail
              all_goals go_roundw
              all_goals first
                | exact ⟨z + 1, _, _, _, by go_num, hlz, HN6.out.1, HPn.out.start HN6.out.2.1 hlz (by have h1 := HNB.out.1; have h2 := HSL.out; have h3 := HNS.out; omega) HCI.out.2.1 (HBP.out.2 (c, i) HCI.out.1), HZ6.out.1, HZ6.out.2.1, HZ6.out.2.2⟩
                | (simp [intOf]; omega)
          · obtain rfl : z = nl := by omega
            clear hls hlp hbx htx
            go_wp2
            go_roundw
            case rel => exact ⟨y + 1, vs, vk, ve, sts, ks, es, Gm, vals, br2, stT, by go_num, hlt, HLS.out, ⟨HLP.out.tx, HLP.out.sem, HLP.out.br, by rw [HLP.out.done, nxT_up HY.out.1]; dsimp only; rw [List.take_of_length_le (show (Bt (Eg S tx A) N l t).length ≤ z by rw [← HBP.out.1, List.length_map]; exact Nat.le_of_eq HNL.out)], HLP.out.room, by have := HLP.out.few; omega⟩⟩
            case measure => simp [intOf]; omega
      | some bl =>
        obtain ⟨ba0, bm0, hva0, _⟩ := HL1.out.vbr k bl hbk
        have HLS : Hid (Ls b1 w V2 ksN f mb bb ksN.length M vs vk ve sts ks es Gm N vals br) := HL1.out
        have HLP : Hid (Lp (Eg S tx A) N l room V2 nowT sts ks br stT (nxT (Eg S tx A) N l (nowT.take y)) bl.length) := ⟨HP1.out.tx, HP1.out.sem, HP1.out.br, HP1.out.done, HP1.out.room, by have := HP1.out.few; omega⟩
        have HTX : Hid (Tx V2 (.slice at1 t.length ct1) t) := HT1.out
        have HBK2 : Hid (br k = some bl) := hbk
        clear hbk HL1 HP1 HT1 hcb s0 s1 hva0
        obtain ⟨ba, bm, hva, hrow0⟩ := HLS.out.vbr k bl HBK2.out
        have hcb := (HLS.out.brow.cellAt k (by omega)).trans hva
        have s0 := cell_of_row _ _ 0 _ _ _ HBX.out
        have s1 := cell_of_row _ _ 1 _ _ _ HBX.out
        have HVA : Hid (vals[k]? = some (.slice (some ba) bl.length bm)) := hva
        have hbp := (HLP.out.br k bl HBK2.out) t (List.mem_of_getElem? HY.out.1)
        have HBP : Hid (bl.map Prod.fst = Bt (Eg S tx A) N l t ∧ ∀ p ∈ bl, ∃ q, ks[p.2]? = some q ∧ ∀ x, mem q.2 x = true ↔ Wr (Eg S tx A) (t ++ [(p.1 : Int)]) x ∧ N x ≤ l) := hbp
        obtain ⟨nl, hnl⟩ : ∃ nl, bl.length = nl := ⟨_, rfl⟩
        have HNL : Hid (bl.length = nl) := hnl
        have hn61 : nl ≤ 61 := by
          have h := congrArg List.length hbp.1
          rw [List.length_map, hnl] at h
          rw [h]
          exact Bt_len
        rw [hnl] at hcb
        clear hva hrow0 hbp hnl
        have q1 := eql175 ba nl bm
        go_upto_region 10 with fail
        clear hcb s0 s1
        go_loopw [65] (fun a wr => ∃ (z : Nat) (vs : Value) (sts : List (Value × Nat)) (stT : List (List Int × Nat)), a = .int .i64 z ∧ z ≤ nl ∧ Ls b1 w wr ksN f mb bb ksN.length M vs vk ve sts ks es Gm N vals br ∧ Lp (Eg S tx A) N l room wr nowT sts ks br stT (nxT (Eg S tx A) N l (nowT.take y) ++ ((Bt (Eg S tx A) N l t).take z).map fun (c : Nat) => t ++ [(c : Int)]) (nl - z) ∧ wr.heap[bs]? = some (.cells #[.slice at1 t.length ct1, .int .i64 (k : Int)] 125 (0, 0)) ∧ Tx wr (.slice at1 t.length ct1) t ∧ vs.ownBlock ≠ some bs) (fun a _ => nl - (intOf a).toNat)
        case atStart => exact ⟨0, vs, sts, stT, rfl, Nat.zero_le _, HLS.out, ⟨HLP.out.tx, HLP.out.sem, HLP.out.br, by rw [HLP.out.done]; simp, HLP.out.room, by have := HLP.out.few; have := HNL.out; omega⟩, HBX.out, HTX.out, HVB.out⟩
        case round =>
          clear HLS HLP HBX HTX HVB
          obtain ⟨z, vs, sts, stT, rfl, hz, hls, hlp, hbx, htx, hvb⟩ := hrel
          have HVB : Hid (vs.ownBlock ≠ some bs) := hvb
          clear hvb
          have HLS : Hid (Ls b1 w wr ksN f mb bb ksN.length M vs vk ve sts ks es Gm N vals br) := hls
          have HLP : Hid (Lp (Eg S tx A) N l room wr nowT sts ks br stT (nxT (Eg S tx A) N l (nowT.take y) ++ ((Bt (Eg S tx A) N l t).take z).map fun (c : Nat) => t ++ [(c : Int)]) (nl - z)) := hlp
          have HBX : Hid (wr.heap[bs]? = some (.cells #[.slice at1 t.length ct1, .int .i64 (k : Int)] 125 (0, 0))) := hbx
          have HTX : Hid (Tx wr (.slice at1 t.length ct1) t) := htx
          by_cases hlz : z < nl
          · obtain ⟨a', m', e1, e2⟩ := hls.vbr k bl HBK2.out
            rw [HVA.out] at e1
            simp only [Option.some.injEq, Value.slice.injEq] at e1
            obtain ⟨ea, _, em⟩ := e1
            subst ea em
            have hzb : z < bl.length := by rw [HNL.out]; exact hlz
            obtain ⟨bg, bcap, hbe, _, _⟩ := own_some e2 (by omega)
            simp only [Value.slice.injEq, Option.some.injEq] at hbe
            obtain ⟨ea, _, em⟩ := hbe
            subst ea em
            obtain ⟨c, i, hci⟩ : ∃ c i, bl[z] = (c, i) := ⟨_, _, rfl⟩
            have u := brc_at bl z hzb
            rw [hci] at u
            have p0 := (e2.cellAt (z * 2) (by omega)).trans u.1
            have p1 := (e2.cellAt (z * 2 + 1) (by omega)).trans u.2
            dsimp only at p0 p1
            have HCI : Hid ((c, i) ∈ bl ∧ (Bt (Eg S tx A) N l t).take (z + 1) = (Bt (Eg S tx A) N l t).take z ++ [c] ∧ z < (Bt (Eg S tx A) N l t).length) := by
              have hlb : z < (Bt (Eg S tx A) N l t).length := by rw [← HBP.out.1, List.length_map]; exact hzb
              have hcz : (Bt (Eg S tx A) N l t)[z]'hlb = c := by
                have : (bl.map Prod.fst)[z]? = some c := by rw [List.getElem?_map, List.getElem?_eq_getElem hzb, hci]; rfl
                rw [HBP.out.1, List.getElem?_eq_getElem hlb] at this
                injection this
              exact ⟨hci ▸ List.getElem_mem hzb, by rw [List.take_succ_eq_append_getElem hlb, hcz], hlb⟩
            obtain ⟨av2, cv2, rfl⟩ := oslice hls.fr.starts
            have hx := heap_alloc_new wr (.cells #[.int .i64 (c : Int), .int .i64 (i : Int)] 178)
            have HL2 : Hid (Ls b1 w (wr.alloc (.cells #[.int .i64 (c : Int), .int .i64 (i : Int)] 178)) ksN f mb bb ksN.length M (.slice av2 sts.length cv2) vk ve sts ks es Gm N vals br) := hls.below (below_al _ _)
            have HP2 : Hid (Lp (Eg S tx A) N l room (wr.alloc (.cells #[.int .i64 (c : Int), .int .i64 (i : Int)] 178)) nowT sts ks br stT (nxT (Eg S tx A) N l (nowT.take y) ++ ((Bt (Eg S tx A) N l t).take z).map fun (c : Nat) => t ++ [(c : Int)]) (nl - z)) := hlp.below (below_al _ _)
            have HB2 : Hid ((wr.alloc (.cells #[.int .i64 (c : Int), .int .i64 (i : Int)] 178)).heap[bs]? = some (.cells #[.slice at1 t.length ct1, .int .i64 (k : Int)] 125 (0, 0))) := (heap_alloc_old _ _ (lt_at hbx)).trans hbx
            have HT2 : Hid (Tx (wr.alloc (.cells #[.int .i64 (c : Int), .int .i64 (i : Int)] 178)) (.slice at1 t.length ct1) t) := htx.below (below_al _ _)
            have hsl : sts.length = stT.length := hlp.tx.1
            have HSL : Hid (sts.length = stT.length) := hsl
            obtain ⟨ns1, hns⟩ : ∃ ns1, sts.length = ns1 := ⟨_, rfl⟩
            have HNS : Hid (sts.length = ns1) := hns
            rw [hns] at HL2 HVB
            clear hls hlp hbx htx e2 u hci hsl hns HLS HLP HBX HTX
            go_upto_region 12 with fail
            clear p0 p1
            generalize hV3 : wr.alloc (.cells #[.int .i64 (c : Int), .int .i64 (i : Int)] 178) = V3 at *
            clear hV3
            generalize wr.heap.size = bq at *
            have f0 := cell_of_row _ _ 0 _ _ _ HL2.out.fr.row
            by_cases hrm : ns1 = room
            · have HRM : Hid (ns1 = room) := hrm
              have hrm' : ((ns1 : Int) == (room : Int)) = true := by simp [hrm]
              clear hrm
              go_wp2
              go_ret2
              refine ⟨HL2.out.kp, .inl ⟨rfl, ?_⟩⟩
              have h1 := congrArg List.length HP2.out.done
              rw [List.length_map, List.length_append, List.length_map, List.length_take] at h1
              have h2 := nxT_len (E := Eg S tx A) (N := N) (l := l) HY.out.1
              have h3 := HCI.out.2.2
              have h4 := HSL.out
              have h5 := HNS.out
              have h6 := HRM.out
              dsimp only at h2
              omega
            · have HRM : Hid (¬ ns1 = room) := hrm
              have hrm' : ((ns1 : Int) == (room : Int)) = false := by simp; omega
              have K92 : ∀ W, Below V3.heap.size V3 W → Calls Tryd.prog 92 #[.slice at1 t.length ct1] W fun e w' => ∃ u, e = .returned u ∧ w'.ownsRow V3.heap.size 3 1 u t.length (ints t) ∧ Below V3.heap.size V3 w' ∧ Below W.heap.size W w' := fun W hb => (clone_any (.slice at1 t.length ct1) t W (HT2.out.below hb) (Nat.le_trans HTL.out (by decide))).mono (fun e w' ⟨u, h1, h2, h3⟩ => ⟨u, h1, own_low h2 hb.size, hb.trans (h3.mono hb.size), h3⟩)
              have q0 := cell_of_row _ _ 0 _ _ _ hx
              have q1 := cell_of_row _ _ 1 _ _ _ hx
              have HQX : Hid (V3.heap[bq]? = some (.cells #[.int .i64 (c : Int), .int .i64 (i : Int)] 178 (0, 0))) := hx
              have r0 := cell_of_row _ _ 0 _ _ _ HB2.out
              have r00 : ∀ o, (V3.alloc o).cell? ⟨bs, 0, none⟩ = some (.slice at1 t.length ct1) := fun o => cell_of_row _ _ 0 _ _ _ ((heap_alloc_old _ _ (lt_at HB2.out)).trans HB2.out)
              have htl : t.length ≤ 100 := HTL.out
              clear hrm hx
              go_upto_region 14 with fail
              clear f0
              go_cut [17] from 76 to 83 (fun s17 wx => ∃ (a : Option Addr) (m : Nat), s17 = .slice a (t.length + 1) m ∧ Tx wx (.slice a (t.length + 1) m) (t ++ [(c : Int)]) ∧ Below V3.heap.size V3 wx)
              case first =>
                go_region_law (first
                  | (go_simp; refine (K92 _ (by first | exact below_drewN (Below.refl _ _) 1 | exact (below_al V3 _).drew | exact (below_drewN (Below.refl _ _) 1).alloc (Nat.le_refl _) _)).mono ?_; rintro e w4 ⟨u, rfl, hr4, hb4, hw4⟩; have HW4 : Hid _ := hw4; clear hw4; have HR4 : Hid (w4.ownsRow V3.heap.size 3 1 u t.length (ints t) ∧ Below V3.heap.size V3 w4) := ⟨hr4, hb4⟩; clear hr4 hb4; have d0 : w4.cell? ⟨bq, 0, none⟩ = some (.int .i64 (c : Int)) := cell_of_row _ _ 0 _ _ _ ((HR4.out.2.block bq (lt_at HQX.out)).trans HQX.out); dsimp only)
                  | (refine step_append_at rfl (.tmp 78) (.tmp 81) 26 rfl V3.heap.size 3 i3 (.int .i64 0) 1 8 Tryd.underlying26 hi3 hx0 hx1 hx2 rfl (by decide) _ _ _ rfl (HR4.out.1.alloc _) ⟨_, 0, none⟩ 1 1 [.int .i64 (c : Int)] rfl rfl (cell_one_new _ _ _) (sl_one _ rfl) (by unfold maxLen; omega) (by omega) (le_al HR4.out.2.size) ?_; intro v5 w5 ho5 hg5 hl5; have HN5 : Hid _ := txt_new (HR4.out.2.alloc HR4.out.2.size (.cells #[.int .i64 (c : Int)] 3)) ho5 hg5 (HR4.out.1.alloc (.cells #[.int .i64 (c : Int)] 3)); obtain ⟨⟨ga, gm, hga⟩, z1, z2⟩ := HN5.out; clear z1 z2 ho5 hg5 hl5; subst hga)
                  | (refine step_append_at rfl (.tmp 78) (.tmp 81) 26 rfl V3.heap.size 3 i3 (.int .i64 0) 1 8 Tryd.underlying26 hi3 hx0 hx1 hx2 rfl (by decide) _ _ _ rfl HR4.out.1 ⟨_, 0, none⟩ 1 1 [.int .i64 (c : Int)] rfl rfl (cell_mid HW4.out) (sl_one _ rfl) (by unfold maxLen; omega) (by omega) HR4.out.2.size ?_; intro v5 w5 ho5 hg5 hl5; have HN5 : Hid _ := txt_new HR4.out.2 ho5 hg5 HR4.out.1; obtain ⟨⟨ga, gm, hga⟩, z1, z2⟩ := HN5.out; clear z1 z2 ho5 hg5 hl5; subst hga))
                all_goals (go_wp2_with fail; go_meet)
                all_goals exact ⟨_, _, rfl, HN5.out.2.1, HN5.out.2.2⟩
              case rest =>
              obtain ⟨ga, gm, rfl, hTn, hBn⟩ := hcut
              have HLn : Hid (Ls b1 w wc ksN f mb bb ksN.length M (.slice av2 ns1 cv2) vk ve sts ks es Gm N vals br) := HL2.out.below hBn
              have HPn : Hid (Lp (Eg S tx A) N l room wc nowT sts ks br stT (nxT (Eg S tx A) N l (nowT.take y) ++ ((Bt (Eg S tx A) N l t).take z).map fun (c : Nat) => t ++ [(c : Int)]) (nl - z)) := HP2.out.below hBn
              have HBn : Hid (wc.heap[bs]? = some (.cells #[.slice at1 t.length ct1, .int .i64 (k : Int)] 125 (0, 0))) := (hBn.block _ (lt_at HB2.out)).trans HB2.out
              have HTn : Hid (Tx wc (.slice ga (t.length + 1) gm) (t ++ [(c : Int)]) ∧ Tx wc (.slice at1 t.length ct1) t) := ⟨hTn, HT2.out.below hBn⟩
              have hqn := (hBn.block _ (lt_at HQX.out)).trans HQX.out
              have q1n := cell_of_row _ _ 1 _ _ _ hqn
              have f0 := cell_of_row _ _ 0 _ _ _ HLn.out.fr.row
              have f00 : ∀ o, (wc.alloc o).cell? ⟨f, 0, none⟩ = some (.slice av2 ns1 cv2) := fun o => cell_of_row _ _ 0 _ _ _ (HLn.out.below (below_al wc o)).fr.row
              have HNB : Hid (ns1 < room ∧ ns1 ≤ 500) := by
                have h1 := HPn.out.room
                have h2 := HSL.out
                have h3 := HNS.out
                have h4 := HRM.out
                exact ⟨by omega, by omega⟩
              have HWS : Hid (w.heap.size ≤ wc.heap.size) := HLn.out.kp.size
              have hst0 : Hid (wc.ownsRow w.heap.size 125 2 (.slice av2 ns1 cv2) ns1 (stc sts)) := by have := HLn.out.fr.starts; rw [HNS.out] at this; exact this
              have HLT2 : Hid (∀ p ∈ ksN, ∀ b, p.1.ownBlock = some b → b < w.heap.size) := fun p hp b hb => ((HFR.out.each p hp).1.1.lt _ hb).2
              clear hTn hBn hqn HL2 HP2 HB2 HT2 HQX K92 q0 q1 r0 r00
              go_upto_region 15 with fail
              refine wp_region_noPanic ?_
              go_region_law (refine step_append_at rfl (.tmp 87) (.tmp 92) 119 rfl w.heap.size 125 i5 (.agg #[.slice none 0 0, .int .i64 0]) 2 32 Tryd.underlying119 hi5 hy0 hy1 hy2 rfl (by decide) _ _ _ rfl (hst0.out.alloc _).drew ⟨_, 0, none⟩ 1 1 [.slice ga (t.length + 1) gm, .int .i64 (i : Int)] rfl rfl (cell_two_d _ _ _ _ _ (by simp)) (two_of _ _ rfl) (by have := HNB.out.2; unfold maxLen; omega) (by have := HNB.out.2; omega) (by have := HWS.out; simp; omega) ?_; intro v6 w6 ho6 hg6 hl6; obtain ⟨g6, c6, rfl, _, _⟩ := own_some ho6 (Nat.succ_pos _); have hfr6 := (HLn.out.fr.below (below_al wc (.cells #[.slice ga (t.length + 1) gm, .int .i64 (i : Int)] 125))).f1 (hst0.out.alloc _) (by decide) (grown_undrew hg6); have z2 := cell_of_row _ _ 0 _ _ _ hfr6; have z3 := frozen_of_row _ _ 0 _ _ hfr6; have HN6 : Hid _ := (HLn.out.below (below_al wc (.cells #[.slice ga (t.length + 1) gm, .int .i64 (i : Int)] 125))).start (by rw [HNS.out]; exact ho6) (grown_undrew hg6) (HPn.out.below (below_al wc (.cells #[.slice ga (t.length + 1) gm, .int .i64 (i : Int)] 125))).tx (HTn.out.1.below (below_al wc _)) HLT2.out; have HZ6 : Hid _ := start_more (vs := .slice av2 ns1 cv2) (own_new hl6 (below_al wc (.cells #[.slice ga (t.length + 1) gm, .int .i64 (i : Int)] 125)).size) HBn.out HTn.out.2 HLn.out.fr HVB.out HN6.out.2.2; clear ho6 hg6 hl6 hfr6)
              all_goals refine NoPanic.normal ?_
              all_goals go_wp2_with fail
              all_goals go_roundw
              all_goals first
                | exact ⟨z + 1, _, _, _, by go_num, hlz, HN6.out.1, HPn.out.start HN6.out.2.1 hlz (by have h1 := HNB.out.1; have h2 := HSL.out; have h3 := HNS.out; omega) HCI.out.2.1 (HBP.out.2 (c, i) HCI.out.1), HZ6.out.1, HZ6.out.2.1, HZ6.out.2.2⟩
                | (simp [intOf]; omega)
          · obtain rfl : z = nl := by omega
            clear hls hlp hbx htx
            go_wp2
            go_roundw
            case rel => exact ⟨y + 1, vs, vk, ve, sts, ks, es, Gm, vals, br, stT, by go_num, hlt, HLS.out, ⟨HLP.out.tx, HLP.out.sem, HLP.out.br, by rw [HLP.out.done, nxT_up HY.out.1]; dsimp only; rw [List.take_of_length_le (show (Bt (Eg S tx A) N l t).length ≤ z by rw [← HBP.out.1, List.length_map]; exact Nat.le_of_eq HNL.out)], HLP.out.room, by have := HLP.out.few; omega⟩⟩
            case measure => simp [intOf]; omega
    · obtain rfl : y = stsN.length := by omega
      clear hls hlp
      go_wp2
      go_ret2
      exact ⟨HLS.out.kp, .inr ⟨f, vs, vk, ve, sts, ks, es, stT, rfl, HLS.out.fr, HLS.out.es, HLP.out.tx, HLP.out.sem, by rw [HLP.out.done, HNOW.out.1.1, List.take_length], HLP.out.room, HLP.out.few⟩⟩
end Go.Proofs.YtfjocafepigijaaDoor.Ot
