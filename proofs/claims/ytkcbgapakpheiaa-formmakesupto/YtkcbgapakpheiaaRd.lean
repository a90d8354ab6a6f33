/- The program's Read. No conditions beyond how the lexicon and the form lie. -/
import Derived.Test.YtkcbgapakpheiaaEq
import Derived.Maps.AppendAt
import Derived.Maps.OwnIn
namespace Go.Proofs.Ytkcbgapakpheiaa.Rd
open Go.RowKit Go.Shelf Sd Md Sc Aq Ls Lx Lz Fo Mk Rf Tk Tk1
attribute [local go_sem] Oper.semAt_some

def rdc (p : Nat × Nat) : List Value := [.int .i64 p.1, .int .i64 p.2]
def hits (form : List Int) (l : List (Nat × Nat × List Int)) : List (Nat × Nat) := (l.filter (fun x => x.2.2 == form)).map (fun x => (x.1, x.2.1))
def readE (y : VX) (form : List Int) : Int := if checkX y.lex = 0 then (if 60 < form.length then 2 else if form.any (bad y.k) then 3 else 0) else checkX y.lex
def readR (y : VX) (form : List Int) : List (Nat × Nat) := if readE y form = 0 then hits form (toldX y) else []

theorem bx2 (w : World) (o : Obj) (u : Value) (t : Nat) : ((w.alloc o).alloc (.cells #[u] t)).cell? ⟨w.heap.size + 1, 0, none⟩ = some u := by
  have := newcs (w.alloc o) #[u] t (w.heap.size + 1) 0 (by simp)
  rw [this]
  rfl
theorem bx1 (w : World) (a b c d : Value) (t : Nat) (o : Obj) : ((w.alloc (.cells #[a, b, c, d] t)).alloc o).cell? ⟨w.heap.size, 0, none⟩ = some a := by
  rw [((Below.refl _ (w.alloc (.cells #[a, b, c, d] t))).alloc (Nat.le_refl _) o).cell (by simp)]
  simp
theorem al (W : World) (o : Obj) : Below W.heap.size W (W.alloc o) := (Below.refl _ _).alloc (Nat.le_refl _) _
theorem row_nil (w : World) (k : Nat) : Row w (.slice none 0 0) k 0 [] := ⟨by simp, none, 0, rfl, Nat.le_refl _, Nat.zero_le _, fun _ => rfl, .inl rfl⟩

theorem hits_len (form : List Int) (l : List (Nat × Nat × List Int)) : (hits form l).length ≤ l.length := by
  unfold hits
  rw [List.length_map]
  exact List.length_filter_le _ _
theorem cellsX_len (h : List Ch) (s : St) (i k : Nat) (l : List Ly.VCe) : (cellsX h s i k l).length ≤ l.length := by
  induction l generalizing k with
  | nil => simp [cellsX]
  | cons c l ih =>
    unfold cellsX
    rw [List.length_append, List.length_cons]
    have := ih (k + 1)
    split
    · simp only [List.length_singleton]; omega
    · simp only [List.length_nil]; omega
theorem stemsX_len (h : List Ch) (ces : List Ly.VCe) (i : Nat) (l : List Ly.VSt) : (stemsX h ces i l).length ≤ l.length * ces.length := by
  induction l generalizing i with
  | nil => simp [stemsX]
  | cons c l ih =>
    unfold stemsX
    rw [List.length_append, List.length_cons, Nat.add_mul, Nat.one_mul]
    have := ih (i + 1)
    have := cellsX_len h c.2 i 0 ces
    omega
theorem toldX_len (y : VX) : (toldX y).length ≤ y.sts.length * y.ces.length := stemsX_len _ _ _ _
theorem many_of {y : VX} (h : checkX y.lex = 0) : y.sts.length ≤ 40 ∧ y.ces.length ≤ 20 := by
  unfold checkX at h
  split at h
  · omega
  · rename_i h1
    simp only [Lex.manyB, VX.lex, Bool.or_eq_true, not_or, decide_eq_true_eq, List.length_map] at h1
    omega
/-- what holds between two rounds -/
def Inv (form : List Int) (w : World) (nV b7 : Nat) (av : Option Addr) (cv : Nat) (pre : List El) (O : Nat → Prop) (A : World) : Prop :=
  ∃ u, Boxed A b7 43 u ∧ A.ownsRow (nV + 2) 40 2 u (hits form (pre.map Prod.fst)).length ((hits form (pre.map Prod.fst)).flatMap rdc) ∧ A.cell? ⟨w.heap.size + 1, 0, none⟩ = some (.slice av form.length cv) ∧ Below w.heap.size w A ∧ O = (fun q => q = b7 ∨ u.ownBlock = some q)

theorem past_cell {l : Nat} {A B : World} (hr : IsRec l A) (hp : Past l A B) {p : Addr} {u : Value} (h : A.cell? p = some u) : B.cell? p = some u := by
  obtain ⟨r, hr⟩ := hr
  have hlt := World.block_lt_of_cell? _ _ h
  refine (World.cell?_of_block (a := p) (hp.block _ hlt ?_)).trans h
  intro e
  rw [← e] at hr
  simp [World.cell?, hr] at h
theorem row_past {l : Nat} {A B : World} (hr : IsRec l A) (hp : Past l A B) {v : Value} {s n : Nat} {xs : List Value} (h : Row A v s n xs) : Row B v s n xs := by
  obtain ⟨hl, a, cap, hv, hn, hm, hz, h⟩ := h
  refine ⟨hl, a, cap, hv, hn, hm, hz, ?_⟩
  rcases h with h | ⟨b, off, ha, hlt, hc⟩
  · exact .inl h
  · exact .inr ⟨b, off, ha, Nat.lt_of_lt_of_le hlt hp.size, fun j u hu => past_cell hr hp (hc j u hu)⟩
theorem own_ge {A : World} {base e s n q : Nat} {u : Value} {xs : List Value} (h : A.ownsRow base e s u n xs) (hq : u.ownBlock = some q) : base ≤ q ∧ q < A.heap.size := by
  rcases h.2 with ⟨rfl, _⟩ | ⟨g, cap, cur, rfl, hb, hg, _⟩
  · simp [Value.ownBlock] at hq
  · simp only [Value.ownBlock, Option.some.injEq] at hq
    subst hq
    exact ⟨hb, (Array.getElem?_eq_some_iff.1 hg).1⟩
theorem own_past {l : Nat} {A B : World} (hp : Past l A B) {base e s n : Nat} {u : Value} {xs : List Value} (h : A.ownsRow base e s u n xs) (hl : l < base) : B.ownsRow base e s u n xs := by
  refine ⟨h.1, ?_⟩
  rcases h.2 with h' | ⟨g, cap, cur, hu, hb, hg, hrest⟩
  · exact .inl h'
  · exact .inr ⟨g, cap, cur, hu, hb, (hp.block g (Array.getElem?_eq_some_iff.1 hg).1 (by omega)).trans hg, hrest⟩
theorem below_past {l n : Nat} {w A B : World} (hp : Past l A B) (h : Below n w A) (hn : n ≤ A.heap.size) (hl : n ≤ l) : Below n w B :=
  h.trans ⟨hp.os, hp.tape, hp.output, hp.size, fun k hk => hp.block k (by omega) (by omega)⟩
theorem Inv.past {form : List Int} {w : World} {nV b7 : Nat} {av : Option Addr} {cv : Nat} {pre : List El} {O : Nat → Prop} {A B : World} (h : Inv form w nV b7 av cv pre O A) (hr : IsRec (nV + 1) A) (hp : Past (nV + 1) A B) (h1 : b7 < nV) (h2 : w.heap.size ≤ b7) (_ : nV + 1 < nV + 2) : Inv form w nV b7 av cv pre O B := by
  obtain ⟨u, hb7, hrow, hpf, hBA, hO⟩ := h
  exact ⟨u, (hp.block _ hb7.lt (by omega)).trans hb7, own_past hp hrow (by omega), past_cell hr hp hpf, below_past hp hBA hBA.size (by omega), hO⟩

theorem info40 : (Try.prog.info? 40).map (fun i => (i.zero, i.size, i.bytes)) = some (some (.agg #[.int .i64 0, .int .i64 0]), 2, 16) := by kernel_rfl
theorem hits_hit {form : List Int} (pre : List El) (x : El) (h : (x.1.2.2 == form) = true) : hits form ((pre ++ [x]).map Prod.fst) = hits form (pre.map Prod.fst) ++ [(x.1.1, x.1.2.1)] := by
  unfold hits
  rw [List.map_append, List.filter_append, List.map_append]
  simp [h]
theorem hits_miss {form : List Int} (pre : List El) (x : El) (h : (x.1.2.2 == form) = false) : hits form ((pre ++ [x]).map Prod.fst) = hits form (pre.map Prod.fst) := by
  unfold hits
  rw [List.map_append, List.filter_append, List.map_append]
  simp [h]
theorem two_new (w : World) (x y : Value) (t : TypeId) : ∀ j u, [x, y][j]? = some u → (w.alloc (.cells #[x, y] t)).cell? ((⟨w.heap.size, 0, none⟩ : Addr).add j) = some u := by
  intro j u hj
  have hadd : (⟨w.heap.size, 0, none⟩ : Addr).add j = ⟨w.heap.size, 0 + j, none⟩ := by unfold Addr.add; split <;> simp_all
  rw [hadd, newcs w #[x, y] t _ _ rfl]
  simpa using hj
theorem hit_end {form : List Int} {w : World} {nV b7 : Nat} {av : Option Addr} {cv : Nat} (pre : List El) (x : El) {A w6 w7 : World} {u v' : Value} {tmp : Obj} (hb6 : Below A.heap.size A w6) (hb7 : Boxed w6 b7 43 u)
    (hrow : w6.ownsRow (nV + 2) 40 2 u (hits form (pre.map Prod.fst)).length ((hits form (pre.map Prod.fst)).flatMap rdc))
    (hown : w7.ownsRow (nV + 2) 40 2 v' ((hits form (pre.map Prod.fst)).length + 1) ((hits form (pre.map Prod.fst)).flatMap rdc ++ [.int .i64 x.1.1, .int .i64 x.1.2.1]))
    (hgrow : (w6.alloc tmp).grownBy w7 u.ownBlock) (hat : v'.ownBlock = u.ownBlock ∨ v'.ownBlock = some (w6.alloc tmp).heap.size)
    (hpf : A.cell? ⟨w.heap.size + 1, 0, none⟩ = some (.slice av form.length cv)) (hBA : Below w.heap.size w A) (hn : b7 < nV) (hb : w.heap.size + 1 < b7) (he : (x.1.2.2 == form) = true) :
    ∃ O', Kept (fun q => q = b7 ∨ u.ownBlock = some q) O' A (w7.setCell ⟨b7, 0, none⟩ v') ∧ Inv form w nV b7 av cv (pre ++ [x]) O' (w7.setCell ⟨b7, 0, none⟩ v') := by
  have hs := grownBy_setCell' w7 b7 v'
  have g1 := al w6 tmp
  have hv1 : Boxed w7 b7 43 u := (hb7.alloc tmp).kept hgrow (hb7.not_row (by decide) hrow)
  have s1 := hb6.size
  have s2 := g1.size
  have s3 := hgrow.size
  have K : Kept (fun q => q = b7 ∨ u.ownBlock = some q) (fun q => q = b7 ∨ v'.ownBlock = some q) A (w7.setCell ⟨b7, 0, none⟩ v') := by
    refine ⟨hs.os.trans (hgrow.os.trans (g1.os.trans hb6.os)), hs.tape.trans (hgrow.tape.trans (g1.tape.trans hb6.tape)), hs.output.trans (hgrow.output.trans (g1.output.trans hb6.output)), Nat.le_trans (by omega) hs.size, fun q hq hno => ?_⟩
    simp only [not_or] at hno ⊢
    refine ⟨⟨hno.1, fun h => ?_⟩, ?_⟩
    · rcases hat with hat | hat
      · exact hno.2 (hat.symm.trans h)
      · rw [hat, Option.some.injEq, World.size_alloc] at h
        omega
    · exact (Below.heap_setCell _ _ _ q hno.1).trans ((hgrow.block q (by omega) (fun h => hno.2 h.symm)).trans ((g1.block q (by omega)).trans (hb6.block q hq)))
  have hown0 : ∀ q, q < nV + 2 → u.ownBlock ≠ some q := fun q hq h => by have := (own_ge hrow h).1; omega
  refine ⟨_, K, v', hv1.set v', ?_, ?_, K.below hBA hBA.size (fun q hq h => ?_), rfl⟩
  · rw [hits_hit pre x he, List.length_append, List.flatMap_append]
    have := hown.kept hs (.inr (hv1.not_row (by decide) hown).symm)
    simpa [rdc] using this
  · exact (World.cell?_of_block (a := ⟨w.heap.size + 1, 0, none⟩) (K.block _ (World.block_lt_of_cell? _ _ hpf) (fun h => h.elim (fun h => by dsimp only at h; omega) (fun h => hown0 _ (by dsimp only; omega) h))).2).trans hpf
  · rcases h with h | h
    · omega
    · exact hown0 q (by omega) h
theorem miss_end {form : List Int} {w : World} {nV b7 : Nat} {av : Option Addr} {cv : Nat} (pre : List El) (x : El) {A w6 : World} {u : Value} (hb6 : Below A.heap.size A w6) (hb7 : Boxed A b7 43 u)
    (hrow : A.ownsRow (nV + 2) 40 2 u (hits form (pre.map Prod.fst)).length ((hits form (pre.map Prod.fst)).flatMap rdc))
    (hpf : A.cell? ⟨w.heap.size + 1, 0, none⟩ = some (.slice av form.length cv)) (hBA : Below w.heap.size w A) (he : (x.1.2.2 == form) = false) :
    ∃ O', Kept (fun q => q = b7 ∨ u.ownBlock = some q) O' A w6 ∧ Inv form w nV b7 av cv (pre ++ [x]) O' w6 := by
  refine ⟨_, ⟨hb6.os, hb6.tape, hb6.output, hb6.size, fun q hq hno => ⟨hno, hb6.block q hq⟩⟩, u, (hb6.block _ hb7.lt).trans hb7, ?_, (hb6.cell (World.block_lt_of_cell? _ _ hpf)).trans hpf, hBA.trans (hb6.mono hBA.size), rfl⟩
  rw [hits_miss pre x he]
  exact hrow.kept ⟨hb6.os, hb6.tape, hb6.output, hb6.size, fun q hq _ => hb6.block q hq⟩ (row := none) (by rcases hrow.2 with ⟨rfl, _⟩ | ⟨g, cap, cur, rfl, _⟩ <;> simp [Value.ownBlock])

set_option maxHeartbeats 4000000 in
set_option maxRecDepth 100000 in
theorem read_any (y : VX) (v : Value) (form : List Int) (w : World) (h : IsX w y) (hf : IsI w v form) :
    Calls Try.prog 14 #[y.val, v] w fun e w' => ∃ u, e = .returned (.tuple #[u, .int .i64 (readE y form)]) ∧ Row w' u 2 (readR y form).length ((readR y form).flatMap rdc) ∧ Below w.heap.size w w' := by
  have hb2 : ∀ o1 o2, Below w.heap.size w ((w.alloc o1).alloc o2) := fun o1 o2 => ((Below.refl _ w).alloc (Nat.le_refl _) o1).alloc (by simp) o2
  have c10 := fun o1 o2 => Xb.check_any y ((w.alloc o1).alloc o2) (h.below (hb2 o1 o2))
  obtain ⟨av, cv, hv, _, hmv⟩ := hf.len
  subst hv
  by_cases hck : checkX y.lex = 0
  · have hlens := lens_of hck
    have hT : (toldX y).length ≤ 800 := Nat.le_trans (toldX_len y) (Nat.mul_le_mul (many_of hck).1 (many_of hck).2)
    have hrd : readE y form = (if 60 < form.length then 2 else if form.any (bad y.k) then 3 else 0) := if_pos hck
    rw [hck] at c10
    by_cases h1 : 60 < form.length
    · have e1 : readE y form = 2 := by rw [hrd, if_pos h1]
      have e2 : readR y form = [] := by unfold readR; rw [if_neg (by rw [e1]; decide)]
      rw [e1, e2]
      have d1 : decide ((60 : Int) < (form.length : Int)) = true := decide_eq_true (by omega)
      obtain ⟨k, vs, vc, vh, sts, ces, xs⟩ := y
      simp only [VX.val] at c10 ⊢
      clear h hck e1 e2 hf hrd hlens hT
      refine (callsIn_wide (n := 5)).1 ?_
      refine callsIn_of_wp_marks Try.func14 rfl trivial ?_ rfl
      simp only [Try.ntmps14, List.size_toArray, List.length_cons, List.length_nil, Nat.reduceAdd, Nat.reduceSub, Array.replicate_succ, Array.replicate_zero, List.push_toArray, List.append_toArray, List.nil_append, List.cons_append]
      gi_wp2_with (refine ⟨trivial, ?_⟩; gi_at_call 10; refine (callsIn_wide.2 (c10 _ _)).mono ?_; rintro e w1 ⟨rfl, hb1⟩; have p0 := (hb1.cell (p := ⟨w.heap.size + 1, 0, none⟩) (by simp)).trans (bx2 w _ _ _))
      exact ⟨_, results_tmp2 rfl _ _ _, _, rfl, row_nil _ _, (hb2 _ _).trans (hb1.mono (hb2 _ _).size)⟩
    have d1 : decide ((60 : Int) < (form.length : Int)) = false := decide_eq_false (by omega)
    rw [if_neg h1] at hrd
    have c27 : ∀ W : World, Calls Try.prog 27 #[.int .i64 y.k] W fun e w' => ∃ B, e = .returned (.func (.func 47) #[] #[.pointer (some ⟨B, 0, none⟩)]) ∧ B < w'.heap.size ∧ w'.cell? ⟨B, 0, none⟩ = some (.int .i64 y.k) ∧ Below W.heap.size W w' := fun W => (Ly.outside_any y.k W).mono fun e w' hh => ⟨W.heap.size, hh.1, by rw [hh.2]; simp, by rw [hh.2]; simp, by rw [hh.2]; exact (Below.refl _ _).alloc (Nat.le_refl _) _⟩
    have c26 := fun W (hW : Below w.heap.size w W) B hB hc => Ly.anyBad (.slice av form.length cv) form y.k B W (hf.below (Nat.le_refl _) hW) hB hc
    obtain ⟨k, vs, vc, vh, sts, ces, xs⟩ := y
    simp only [VX.val] at c10 c27 c26 hrd ⊢
    by_cases h2 : form.any (bad k) = true
    · have e1 : readE ⟨k, vs, vc, vh, sts, ces, xs⟩ form = 3 := by rw [hrd, if_pos h2]
      have e2 : readR ⟨k, vs, vc, vh, sts, ces, xs⟩ form = [] := by unfold readR; rw [if_neg (by rw [e1]; decide)]
      rw [e1, e2]
      rw [h2] at c26
      clear h hck e1 e2 hf hrd hlens h2 hT
      refine (callsIn_wide (n := 5)).1 ?_
      refine callsIn_of_wp_marks Try.func14 rfl trivial (wpIn_wide.2 ?_) rfl
      simp only [Try.ntmps14, List.size_toArray, List.length_cons, List.length_nil, Nat.reduceAdd, Nat.reduceSub, Array.replicate_succ, Array.replicate_zero, List.push_toArray, List.append_toArray, List.nil_append, List.cons_append]
      go_wp2_with (go_at_call 10; refine (c10 _ _).mono ?_; rintro e w1 ⟨rfl, hb1⟩; have p0 := (hb1.cell (p := ⟨w.heap.size + 1, 0, none⟩) (by simp)).trans (bx2 w _ _ _); have q0 := (hb1.cell (p := ⟨w.heap.size, 0, none⟩) (by simp; omega)).trans (bx1 w _ _ _ _ _ _); have B1 := (hb2 _ _).trans (hb1.mono (hb2 _ _).size))
      have KP : ∀ w2 : World, Below w1.drew.heap.size w1.drew w2 → w2.cell? ⟨w.heap.size + 1, 0, none⟩ = some (.slice av form.length cv) ∧ w2.cell? ⟨w.heap.size, 0, none⟩ = some (.int .i64 k) := fun w2 hb => ⟨(hb.cell (World.block_lt_of_cell? _ _ p0)).trans p0, (hb.cell (World.block_lt_of_cell? _ _ q0)).trans q0⟩
      have BD : Below w.heap.size w w1.drew := B1.drew
      go_region_held3 (fun w2 => w2.cell? ⟨w.heap.size + 1, 0, none⟩ = some (.slice av form.length cv) ∧ w2.cell? ⟨w.heap.size, 0, none⟩ = some (.int .i64 k)) (first | exact KP _ (Below.refl _ _) | assumption | go_keep)
        (first
          | (go_at_call 27; refine (c27 _).mono ?_; rintro e w3 ⟨B, rfl, hBl, hBc, hb3⟩; have HK := KP _ hb3; have B3 := BD.trans (hb3.mono BD.size))
          | (go_at_call 26; refine (c26 _ B3 _ hBl hBc).mono ?_; rintro e w4 ⟨rfl, hb4⟩; have HK4 := KP _ (hb3.trans (hb4.mono hb3.size)); have B4 := B3.trans (hb4.mono B3.size)))
      all_goals go_wp2
      all_goals exact ⟨_, results_tmp2 rfl _ _ _, _, rfl, row_nil _ _, B4⟩
    · have e1 : readE ⟨k, vs, vc, vh, sts, ces, xs⟩ form = 0 := by rw [hrd, if_neg h2]
      have e2 : readR ⟨k, vs, vc, vh, sts, ces, xs⟩ form = hits form (toldX ⟨k, vs, vc, vh, sts, ces, xs⟩) := by unfold readR; rw [if_pos e1]
      rw [e1, e2]
      rw [show form.any (bad k) = false by simpa using h2] at c26
      clear hck e1 e2 hrd h2
      have c24 := fun W => callsIn_wide.1 (told_any ⟨k, vs, vc, vh, sts, ces, xs⟩ W)
      simp only [VX.val] at c24
      refine (callsIn_wide (n := 5)).1 ?_
      refine callsIn_of_wp_marks Try.func14 rfl trivial (wpIn_wide.2 ?_) rfl
      simp only [Try.ntmps14, List.size_toArray, List.length_cons, List.length_nil, Nat.reduceAdd, Nat.reduceSub, Array.replicate_succ, Array.replicate_zero, List.push_toArray, List.append_toArray, List.nil_append, List.cons_append]
      go_wp2_with (go_at_call 10; refine (c10 _ _).mono ?_; rintro e w1 ⟨rfl, hb1⟩; have p0 := (hb1.cell (p := ⟨w.heap.size + 1, 0, none⟩) (by simp)).trans (bx2 w _ _ _); have x0 : Bx4 w.heap.size k vs vc vh w1 := ((Bx4.new w k vs vc vh).below (al _ _)).below hb1; have B1 := (hb2 _ _).trans (hb1.mono (hb2 _ _).size))
      have q0 := x0.g0
      have KP : ∀ w2 : World, Below w1.drew.heap.size w1.drew w2 → w2.cell? ⟨w.heap.size + 1, 0, none⟩ = some (.slice av form.length cv) ∧ w2.cell? ⟨w.heap.size, 0, none⟩ = some (.int .i64 k) := fun w2 hb => ⟨(hb.cell (World.block_lt_of_cell? _ _ p0)).trans p0, (hb.cell (World.block_lt_of_cell? _ _ q0)).trans q0⟩
      have BD : Below w.heap.size w w1.drew := B1.drew
      have x0d : Bx4 w.heap.size k vs vc vh w1.drew := x0.below ((Below.refl _ _).drew)
      go_region_held3 (fun w2 => w2.cell? ⟨w.heap.size + 1, 0, none⟩ = some (.slice av form.length cv) ∧ w2.cell? ⟨w.heap.size, 0, none⟩ = some (.int .i64 k)) (first | exact KP _ (Below.refl _ _) | assumption | go_keep)
        (first
          | (go_at_call 27; refine (c27 _).mono ?_; rintro e w3 ⟨B, rfl, hBl, hBc, hb3⟩; have HK := KP _ hb3; have B3 := BD.trans (hb3.mono BD.size))
          | (go_at_call 26; refine (c26 _ B3 _ hBl hBc).mono ?_; rintro e w4 ⟨rfl, hb4⟩; have HK4 := KP _ (hb3.trans (hb4.mono hb3.size)); have B4 := B3.trans (hb4.mono B3.size); have x4 := x0d.below (hb3.trans (hb4.mono hb3.size))))
      all_goals clear c10 c26 c27 hb3 hb4 KP HK x0 x0d q0 p0 B1 BD B3 hBl hBc hb1
      all_goals have g0 := (x4.below (al _ (.cells #[.slice none 0 0] 43))).g0
      all_goals have g1 := (x4.below (al _ (.cells #[.slice none 0 0] 43))).g1
      all_goals have g2 := (x4.below (al _ (.cells #[.slice none 0 0] 43))).g2
      all_goals have g3 := (x4.below (al _ (.cells #[.slice none 0 0] 43))).g3
      all_goals go_wp2_with (go_at_call 24; refine (c24 _).mono ?_; rintro e w5 ⟨rfl, rfl⟩)
      have b7 : Boxed (w4.alloc (.cells #[.slice none 0 0] 43)) w4.heap.size 43 (.slice none 0 0) := Boxed.new _ _ _
      have bB : Bx4 (w4.heap.size + 1) k vs vc vh ((w4.alloc (.cells #[.slice none 0 0] 43)).alloc (.cells #[.int .i64 k, vs, vc, vh] 26)) := by
        have := Bx4.new (w4.alloc (.cells #[.slice none 0 0] 43)) k vs vc vh
        rw [World.size_alloc] at this
        exact this
      have pf := HK4.1
      clear g0 g1 g2 g3 c24 HK4
      obtain ⟨V, hV⟩ : ∃ V, (w4.alloc (.cells #[.slice none 0 0] 43)).alloc (.cells #[.int .i64 k, vs, vc, vh] 26) = V := ⟨_, rfl⟩
      have b7V : Boxed V w4.heap.size 43 (.slice none 0 0) := by rw [← hV]; exact b7.alloc _
      have BV : Below w.heap.size w V := by rw [← hV]; exact (B4.alloc B4.size _).alloc (Nat.le_trans B4.size (by simp)) _
      have sV : V.heap.size = w4.heap.size + 2 := by rw [← hV]; simp
      have pfV : V.cell? ⟨w.heap.size + 1, 0, none⟩ = some (.slice av form.length cv) := by
        rw [← hV]
        exact ((al _ _).cell (World.block_lt_of_cell? _ _ (((al _ _).cell (World.block_lt_of_cell? _ _ pf)).trans pf))).trans (((al _ _).cell (World.block_lt_of_cell? _ _ pf)).trans pf)
      have s4 : w.heap.size + 2 ≤ w4.heap.size := by have := World.block_lt_of_cell? _ _ pf; dsimp only at this; omega
      rw [hV] at bB ⊢
      clear hV b7
      refine wpIn_wide.1 (range_tells (n := 5) rfl (by omega) (gf := 45) (lb := #[.pointer (some ⟨w4.heap.size + 1, 0, none⟩)]) rfl trivial (enters_of Try.func45 (by kernel_rfl) rfl)
        (told1_tells ⟨k, vs, vc, vh, sts, ces, xs⟩ w V (w4.heap.size + 1) (5 - 1) (by omega) h BV bB hlens.1 hlens.2) (Below.refl _ _) ?hX (fun _ => rfl) (Inv form w V.heap.size w4.heap.size av cv) ?hI ?hO (fun q => q = w4.heap.size) ?h0 ?hround ?hdone)
      case hX =>
        rintro q (hq | rfl)
        · have := BV.size
          omega
        · omega
      case hI =>
        intro pre O A B hi hr hp
        exact hi.past hr hp (by omega) (by omega) (by omega)
      case hO =>
        rintro pre O A q ⟨u, hb7, hrow, hpf, hBA, rfl⟩ (rfl | hq)
        · exact ⟨by omega, hb7.lt, by omega, by omega⟩
        · obtain ⟨h1, h2⟩ := own_ge hrow hq
          exact ⟨by have := BV.size; omega, h2, by omega, by omega⟩
      case h0 =>
        intro A hA
        refine ⟨.slice none 0 0, (hA.block _ (by omega)).trans b7V, World.ownsRow_nil _ _ _ _, (hA.cell (p := ⟨w.heap.size + 1, 0, none⟩) (by dsimp only; omega)).trans pfV, BV.trans (hA.mono BV.size), ?_⟩
        funext q
        simp [Value.ownBlock]
      case hround =>
        rintro pre O ⟨⟨i, m, fm⟩, v⟩ A hA hrec hinv ⟨hvI, hpre⟩
        dsimp only at hvI hpre
        obtain ⟨va, vc', hv, _, _⟩ := hvI.len
        subst hv
        have hl : (hits form (pre.map Prod.fst)).length < 800 := by
          have h2 := hpre.length_le
          have h3 := hits_len form (pre.map Prod.fst)
          rw [List.length_append, List.length_singleton] at h2
          omega
        refine ⟨{ tmps := #[.agg #[.int .i64 k, vs, vc, vh], .slice av form.length cv, .pointer (some ⟨w.heap.size, 0, none⟩), .pointer (some ⟨w.heap.size + 1, 0, none⟩), .slice none 0 0, .int .i64 0, .int .i64 0, .pointer (some ⟨w4.heap.size, 0, none⟩), .pointer (some ⟨A.heap.size, 0, none⟩), .slice va fm.length vc', .agg #[.int .i64 k, vs, vc, vh], .int .i64 0, .bool false, .int .i64 0, .bool false, undef, .bool false, .slice av form.length cv, .int .i64 form.length, .bool false, .bool false, .slice av form.length cv, .pointer (some ⟨w.heap.size, 0, none⟩), .int .i64 k, .func (.func 47) #[] #[.pointer (some ⟨B, 0, none⟩)], .bool false, .agg #[.int .i64 k, vs, vc, vh], .func (.func 45) #[] #[.pointer (some ⟨w4.heap.size + 1, 0, none⟩)], .agg #[.int .i64 i, .int .i64 m], .slice va fm.length vc', undef, undef, undef, undef, undef, undef, undef, undef], defers := [] }, A.alloc (.cells #[.int .i64 i, .int .i64 m] 40), ?_, al _ _, ?_⟩
        · intro K hK
          simp only [encs]
          gi_wp2
          exact hK
        · intro r
          obtain ⟨A', hA'⟩ : ∃ A', (A.alloc (.cells #[.int .i64 i, .int .i64 m] 40)).putObj (V.heap.size + 1) (.loop r) = A' := ⟨_, rfl⟩
          have hP : Past (V.heap.size + 1) A A' := by rw [← hA']; exact (Past.of_below (al _ _)).trans (Past.put _ _ _)
          have hrA : IsRec (V.heap.size + 1) (A.alloc (.cells #[.int .i64 i, .int .i64 m] 40)) := by
            obtain ⟨r', hr'⟩ := hrec
            exact ⟨r', ((al _ _).block _ (Array.getElem?_eq_some_iff.1 hr').1).trans hr'⟩
          have hP2 : Past (V.heap.size + 1) (A.alloc (.cells #[.int .i64 i, .int .i64 m] 40)) A' := by rw [← hA']; exact Past.put _ _ _
          have z0 : A'.cell? ⟨A.heap.size, 0, none⟩ = some (.int .i64 i) := past_cell hrA hP2 (by simp)
          have z1 : A'.cell? ⟨A.heap.size, 1, none⟩ = some (.int .i64 m) := past_cell hrA hP2 (by simp)
          have hvI' : IsI A' (.slice va fm.length vc') fm := row_past hrec hP hvI
          have hinv' := hinv.past hrec hP (by omega) (by omega) (by omega)
          have hszA : V.heap.size + 2 ≤ A'.heap.size := Nat.le_trans hA hP.size
          rw [hA']
          clear hA' hP hP2 hrA hinv hvI hrec
          obtain ⟨u, hb7, hrow, hpf, hBA, rfl⟩ := hinv'
          have c25 := Eq.eq_all (.slice va fm.length vc') (.slice av form.length cv) fm form A' hvI' (hf.below (Nat.le_refl _) hBA)
          have hsV : w4.heap.size + 1 < V.heap.size := by omega
          clear sV
          by_cases he : (fm == form) = true
          · rw [he] at c25
            obtain ⟨i0, hi, hz0, hz1, hz2⟩ := info_parts info40
            gi_wp2_with (first
              | (refine ⟨trivial, ?_⟩; gi_at_call 25; refine (CallsIn.inRound _ (callsIn_wide.2 c25)).mono ?_; rintro e w6 ⟨rfl, hq6⟩; have hb6 : Below A'.heap.size A' w6 := (by obtain ⟨q, rfl⟩ := hq6; exact below_drewN' (Below.refl _ _) _); clear hq6; have hb76 : Boxed w6 w4.heap.size 43 u := (hb6.block _ hb7.lt).trans hb7; have hrow6 := own_past (l := V.heap.size + 1) (Past.of_below hb6) hrow (by omega); have hc6 := hb76.cell; have y0 := (hb6.cell (World.block_lt_of_cell? _ _ z0)).trans z0; have y1 := (hb6.cell (World.block_lt_of_cell? _ _ z1)).trans z1)
              | (gi_at_builtin; refine wpListIn_append_own_at _ rfl _ _ 43 rfl (V.heap.size + 2) 40 i0 (.agg #[.int .i64 0, .int .i64 0]) 2 16 Try.underlying43 hi hz0 hz1 hz2 rfl (by decide) _ _ _ rfl (hrow6.alloc _) ⟨w6.heap.size, 0, none⟩ 1 1 [.int .i64 i, .int .i64 m] rfl rfl (two_new _ _ _ _) (by simp [Value.oneCell']) (by simp only [maxLen]; omega) (by omega) (by have := hb6.size; simp; omega) ?_; intro v' w7 hown' hgrow _ hat; obtain ⟨g', cap', rfl⟩ := ownsRow_succ hown'; have hv1 : Boxed w7 w4.heap.size 43 u := (hb76.alloc _).kept hgrow (hb76.not_row (by decide) hrow6); have hc1 := hv1.cell; have hf1 := hv1.frozen))
            exact hit_end pre ((i, m, fm), _) hb6 hb76 hrow6 hown' hgrow hat hpf hBA (by omega) (by omega) he
          · have he' : (fm == form) = false := by simpa using he
            rw [he'] at c25
            gi_wp2_with (refine ⟨trivial, ?_⟩; gi_at_call 25; refine (CallsIn.inRound _ (callsIn_wide.2 c25)).mono ?_; rintro e w6 ⟨rfl, hq6⟩; have hb6 : Below A'.heap.size A' w6 := (by obtain ⟨q, rfl⟩ := hq6; exact below_drewN' (Below.refl _ _) _); clear hq6)
            exact miss_end pre ((i, m, fm), _) hb6 hb7 hrow hpf hBA he'
      case hdone =>
        rintro ys O A hA hS ⟨u, hb7, hrow, hpf, hBA, rfl⟩ hdf
        have hc := hb7.cell
        have hn : (hits form (toldX ⟨k, vs, vc, vh, sts, ces, xs⟩)).length ≤ 140737488355328 := Nat.le_trans (hits_len _ _) (by omega)
        rw [hS] at hrow
        have hP := Past.put V.heap.size A (.deferred none)
        have hr2 := row_of_own (own_past hP hrow (by omega)) hn
        have hB2 := below_past hP hBA hBA.size (by omega)
        go_wp2
        refine ⟨by simp, .inl ⟨_, _, rfl, run_takeDeferred hdf, ?_⟩⟩
        exact ⟨_, results_tmp2 rfl _ _ _, _, rfl, hr2, hB2⟩
  · have hne : (checkX y.lex != 0) = true := by simpa using hck
    have e1 : readE y form = checkX y.lex := if_neg hck
    have e2 : readR y form = [] := by unfold readR; rw [if_neg (by rw [e1]; exact hck)]
    rw [e1, e2]
    generalize checkX y.lex = r at c10 hne ⊢
    obtain ⟨k, vs, vc, vh, sts, ces, xs⟩ := y
    simp only [VX.val] at c10 ⊢
    clear h hck e1 e2 hf
    refine (callsIn_wide (n := 5)).1 ?_
    refine callsIn_of_wp_marks Try.func14 rfl trivial ?_ rfl
    simp only [Try.ntmps14, List.size_toArray, List.length_cons, List.length_nil, Nat.reduceAdd, Nat.reduceSub, Array.replicate_succ, Array.replicate_zero, List.push_toArray, List.append_toArray, List.nil_append, List.cons_append]
    gi_wp2_with (refine ⟨trivial, ?_⟩; gi_at_call 10; refine (callsIn_wide.2 (c10 _ _)).mono ?_; rintro e w1 ⟨rfl, hb1⟩)
    exact ⟨_, results_tmp2 rfl _ _ _, _, rfl, row_nil _ _, (hb2 _ _).trans (hb1.mono (hb2 _ _).size)⟩
end Go.Proofs.Ytkcbgapakpheiaa.Rd
