/- needed: the lines of which the last one comes. Conditions: few lines; each comes of lines ahead of it. -/
import Derived.Test.YtcnanbimpajonaaBw
import Derived.Test.YtcnanbimpajonaaPt
import Derived.Test.YtcnanbimpajonaaKp
import Derived.Deep.Cut
import Derived.Deep.CutRange
import Derived.Deep.DeepCutAuto
namespace Go.Proofs.Ytcnanbimpajonaa.Nd
open Go.RowKit Go.Shelf Cl Nu Ag Rf Bw Kp
attribute [local go_sem] Oper.semAt_some

def bcs (bs : List Bool) : Array Value := (bs.map fun b => Value.bool b).toArray
theorem bcs_at {bs : List Bool} {j : Nat} (h : j < bs.length) : (bcs bs)[j]? = some (.bool bs[j]) := by simp [bcs, h]
theorem bcs_set (bs : List Bool) (j : Nat) (b : Bool) : (bcs bs).setIfInBounds j (.bool b) = bcs (bs.set j b) := by
  apply Array.ext'
  simp [bcs, List.map_set]
theorem info4 : (Try.prog.info? 4).map (fun i => (i.zero, i.size, i.bytes)) = some (some (.bool false), 1, 1) := by kernel_rfl
theorem mk_cells (N : Nat) : madeCells #[.bool false] N = bcs (List.replicate N false) := by
  apply Array.ext'
  rw [toList_madeCells_one]
  simp [bcs]
theorem run_mkB (N : Nat) (hN : N ≤ 100000) (W : World) : (Instr.makeSlice 65 (.int .i64 (N : Int)) (.int .i64 (N : Int))).run Try.prog W = .ok (.slice (some ⟨W.heap.size, 0, none⟩) N N) (W.alloc (.cells (bcs (List.replicate N false)) 4)) := by
  obtain ⟨i0, hi, hz0, hz1, hz2⟩ := info_parts info4
  have hr := run_make (P := Try.prog) W 65 4 i0 (.bool false) Try.underlying65 hi hz0 .i64 .i64 (N : Int) (N : Int) (by omega) (Int.le_refl _) (by rw [hz2]; omega) (by omega)
  simp only [Int.toNat_natCast, hz1, Nat.mul_one] at hr
  rw [← mk_cells]
  exact hr
theorem mk_ints (N : Nat) : (madeCells #[.int .i64 0] N).toList = nc (List.replicate N 0) := by
  rw [toList_madeCells_one]
  simp [nc]
/-- whatever is needed from line j on has all that it comes of -/
def Closed (bs : List Bool) (L : List Ln) (j : Nat) : Prop := ∀ (i : Nat) (l : Ln), j ≤ i → L[i]? = some l → bs[i]? = some true → l.1 ≠ 1 → ∀ n ∈ l.2.2, bs[n.toNat]? = some true
/-- each line comes of lines ahead of it -/
def Ahead (L : List Ln) : Prop := ∀ (i : Nat) (l : Ln), L[i]? = some l → l.1 ≠ 1 → ∀ n ∈ l.2.2, 0 ≤ n ∧ n < (i : Int)

/-- but for one block all lies as it lay -/
structure Ko (nb : Nat) (V A : World) : Prop where
  os : A.os = V.os
  tape : A.tape = V.tape
  output : A.output = V.output
  size : V.heap.size ≤ A.heap.size
  block : ∀ k, k < V.heap.size → k ≠ nb → A.heap[k]? = V.heap[k]?
structure Inv (M : Nat) (L : List Ln) (nb : Nat) (V : World) (pre : List El) (O : Nat → Prop) (A : World) : Prop where
  own : O = fun k => k = nb
  st : ∃ bs, bs.length = M + 1 ∧ bs[M]? = some true ∧ Closed bs L (M + 1 - pre.length) ∧ A.heap[nb]? = some (.cells (bcs bs) 4 (0, 0))
  ko : Ko nb V A
theorem Inv.past {M : Nat} {L : List Ln} {nb l : Nat} {V A B : World} {pre : List El} {O : Nat → Prop} (h : Inv M L nb V pre O A) (hp : Past l A B) (hl : V.heap.size ≤ l) (hn : nb < V.heap.size) : Inv M L nb V pre O B := by
  obtain ⟨bs, h1, h2, h3, h4⟩ := h.st
  have hs := h.ko.size
  refine ⟨h.own, ⟨bs, h1, h2, h3, (hp.block nb (by omega) (by omega)).trans h4⟩, ?_⟩
  exact ⟨hp.os.trans h.ko.os, hp.tape.trans h.ko.tape, hp.output.trans h.ko.output, Nat.le_trans hs hp.size, fun k hk hne => (hp.block k (by omega) (by omega)).trans (h.ko.block k hk hne)⟩

theorem closed_step {bs : List Bool} {L : List Ln} {i : Nat} {l : Ln} (h : Closed bs L (i + 1)) (hl : L[i]? = some l) (h' : bs[i]? = some true → l.1 ≠ 1 → ∀ n ∈ l.2.2, bs[n.toNat]? = some true) : Closed bs L i := by
  intro j l' hj hl' hb hr n hn
  by_cases e : j = i
  · subst e
    rw [hl] at hl'
    cases hl'
    exact h' hb hr n hn
  · exact h j l' (by omega) hl' hb hr n hn
theorem closed_more {bs bs' : List Bool} {L : List Ln} {i : Nat} (h : Closed bs L (i + 1)) (h1 : ∀ j : Nat, bs[j]? = some true → bs'[j]? = some true) (h2 : ∀ j : Nat, i ≤ j → bs'[j]? = bs[j]?) : Closed bs' L (i + 1) := by
  intro j l hj hl hb hr n hn
  rw [h2 j (by omega)] at hb
  exact h1 _ (h j l hj hl hb hr n hn)
theorem past_cell {l : Nat} {A B : World} (hr : IsRec l A) (hp : Past l A B) {p : Addr} {u : Value} (h : A.cell? p = some u) : B.cell? p = some u := by
  obtain ⟨r, hr⟩ := hr
  have hlt := World.block_lt_of_cell? _ _ h
  refine (World.cell?_of_block (a := p) (hp.block _ hlt ?_)).trans h
  intro e
  rw [← e] at hr
  simp [World.cell?, hr] at h
/-- inside a round: nothing has turned but the marks -/
structure Rd (nb : Nat) (A' : World) (bs bs' : List Bool) (i : Nat) (wr : World) : Prop where
  len : bs'.length = bs.length
  more : ∀ j : Nat, bs[j]? = some true → bs'[j]? = some true
  same : ∀ j : Nat, i ≤ j → bs'[j]? = bs[j]?
  blk : wr.heap[nb]? = some (.cells (bcs bs') 4 (0, 0))
  ko : Ko nb A' wr
theorem Rd.ends {M : Nat} {L : List Ln} {nb i : Nat} {V A' wr : World} {pre : List El} {x : El} {bs bs' : List Bool} {l : Ln} (h : Rd nb A' bs bs' i wr) (hk : Ko nb V A') (hl : L[i]? = some l) (hb : bs.length = M + 1) (ht : bs[M]? = some true) (hc : Closed bs L (i + 1)) (hi : i + pre.length + 1 = M + 1)
    (hn : bs[i]? = some true → l.1 ≠ 1 → ∀ n ∈ l.2.2, bs'[n.toNat]? = some true) : ∃ O', Kept (fun k => k = nb) O' A' wr ∧ Inv M L nb V (pre ++ [x]) O' wr := by
  refine ⟨fun k => k = nb, ⟨h.ko.os, h.ko.tape, h.ko.output, h.ko.size, fun k hk' hno => ⟨hno, h.ko.block k hk' hno⟩⟩, rfl, ⟨bs', h.len.trans hb, h.more _ ht, ?_, h.blk⟩, ?_⟩
  · have e : M + 1 - (pre ++ [x]).length = i := by rw [List.length_append, List.length_singleton]; omega
    rw [e]
    exact closed_step (closed_more hc h.more h.same) hl (fun h1 h2 n h3 => hn (by rw [← h.same i (Nat.le_refl _)]; exact h1) h2 n h3)
  · have hs := hk.size
    exact ⟨h.ko.os.trans hk.os, h.ko.tape.trans hk.tape, h.ko.output.trans hk.output, Nat.le_trans hs h.ko.size, fun k h1 h2 => (h.ko.block k (by omega) h2).trans (hk.block k h1 h2)⟩
theorem Rd.refl {nb : Nat} {A' : World} {bs : List Bool} (i : Nat) (h : A'.heap[nb]? = some (.cells (bcs bs) 4 (0, 0))) : Rd nb A' bs bs i A' :=
  ⟨rfl, fun _ h => h, fun _ _ => rfl, h, rfl, rfl, rfl, Nat.le_refl _, fun _ _ _ => rfl⟩
theorem Rd.mark {nb : Nat} {A' wr : World} {bs bs' : List Bool} {i n : Nat} (h : Rd nb A' bs bs' i wr) (hn : n < i) : Rd nb A' bs (bs'.set n true) i (wr.setCell ⟨nb, n, none⟩ (.bool true)) := by
  refine ⟨by rw [List.length_set]; exact h.len, fun j hj => ?_, fun j hj => ?_, ?_, ?_⟩
  · rw [List.getElem?_set]
    have := h.more j hj
    split
    · rename_i e
      subst e
      rw [if_pos (List.getElem?_eq_some_iff.1 this).1]
    · exact this
  · rw [List.getElem?_set_ne (by omega)]
    exact h.same j hj
  · rw [← bcs_set]
    exact heap_setCell_same wr nb n _ 4 _ h.blk
  · refine ⟨h.ko.os, h.ko.tape, h.ko.output, ?_, fun k hk hne => ?_⟩
    · simp; exact h.ko.size
    · rw [Below.heap_setCell _ _ _ _ hne]
      exact h.ko.block k hk hne

theorem lp_no {q : Nat} {A : World} {bs : List Bool} {L : List Ln} {k : Nat} {ns : List Int} {Z : List (Ln × Value)} {v : Value} {wr : World} (h : Lp q A bs L k ns Z v wr) (hb : bs[k]? = some false) : Lp q A bs L (k + 1) ns Z v wr :=
  ⟨h.fst.trans (keptL_no hb).symm, h.row, h.frm, h.num, h.bel⟩
theorem lp_numN {q : Nat} {A : World} {bs : List Bool} {L : List Ln} {k N : Nat} {ns : List Int} {Z : List (Ln × Value)} {v : Value} {wr : World} (h : Lp q A bs L k ns Z v wr) (hN : ns.length = N) (cap : Nat) : IsN wr (.slice (some ⟨q, 0, none⟩) N cap) ns :=
  ⟨_, cap, by rw [hN], .inr ⟨q, 0, _, (0, 0), rfl, h.num, fun j x hx => by
    have hj : j < ns.length := (List.getElem?_eq_some_iff.1 hx).1
    rw [Nat.zero_add, List.getElem?_toArray, nc_at hj, (List.getElem?_eq_some_iff.1 hx).2]⟩⟩
/-- lines that are handed back -/
def LinesAt (base : Nat) (w : World) (v : Value) (K : List Ln) : Prop := ∃ Z, Z.map Prod.fst = K ∧ w.ownsRow base 38 5 v K.length (zcs Z) ∧ ∀ z ∈ Z, IsN w z.2 z.1.2.2
theorem run_mkI (N : Nat) (hN : N ≤ 100000) (W : World) : (Instr.makeSlice 29 (.int .i64 (N : Int)) (.int .i64 (N : Int))).run Try.prog W = .ok (.slice (some ⟨W.heap.size, 0, none⟩) N N) (W.alloc (.cells (nc (List.replicate N 0)).toArray 3)) := by
  obtain ⟨i0, hi, hz0, hz1, hz2⟩ := info_parts info3
  have hr := run_make (P := Try.prog) W 29 3 i0 (.int .i64 0) Try.underlying29 hi hz0 .i64 .i64 (N : Int) (N : Int) (by omega) (Int.le_refl _) (by rw [hz2]; omega) (by omega)
  simp only [Int.toNat_natCast, hz1, Nat.mul_one] at hr
  have e : (nc (List.replicate N 0)).toArray = madeCells #[.int .i64 0] N := by rw [← mk_ints]
  rw [e]
  exact hr
theorem lp_new (A : World) (bs : List Bool) (L : List Ln) (N : Nat) : Lp A.heap.size A bs L 0 (List.replicate N 0) [] (.slice none 0 0) (A.alloc (.cells (nc (List.replicate N 0)).toArray 3)) :=
  ⟨rfl, World.ownsRow_nil _ _ _ _, fun _ hz => absurd hz List.not_mem_nil, heap_alloc_new A _, (Below.refl _ A).alloc (Nat.le_refl _) _⟩
theorem own_past {l : Nat} {A B : World} (hp : Past l A B) {base e s n : Nat} {u : Value} {xs : List Value} (h : A.ownsRow base e s u n xs) (hl : l < base) : B.ownsRow base e s u n xs := by
  refine ⟨h.1, ?_⟩
  rcases h.2 with h' | ⟨g, cap, cur, hu, hb, hg, hrest⟩
  · exact .inl h'
  · exact .inr ⟨g, cap, cur, hu, hb, (hp.block g (Array.getElem?_eq_some_iff.1 hg).1 (by omega)).trans hg, hrest⟩

set_option maxHeartbeats 8000000 in
set_option maxRecDepth 100000 in
theorem needed_any (Z : List (Ln × Value)) (M gb cap : Nat) (w : World) (hM : Z.length = M + 1) (hMl : M < 90000) (hZ : LiesZ w gb Z) (hfr : ∀ z ∈ Z, IsN w z.2 z.1.2.2) (hah : Ahead (Z.map Prod.fst)) (hsh : ∀ z ∈ Z, z.1.2.2.length ≤ 1000) :
    Calls Try.prog 19 #[.slice (some ⟨gb, 0, none⟩) (M + 1) cap] w fun e w' => ∃ v' bs, e = .returned v' ∧ bs.length = M + 1 ∧ bs[M]? = some true ∧ Closed bs (Z.map Prod.fst) 0 ∧ LinesAt w.heap.size w' v' (keptL bs (Z.map Prod.fst) (M + 1)) ∧ Below w.heap.size w w' := by
  have hmk : ∀ W, (Instr.makeSlice 65 (.int .i64 ((M : Int) + 1)) (.int .i64 ((M : Int) + 1))).run Try.prog W = .ok (.slice (some ⟨W.heap.size, 0, none⟩) (M + 1) (M + 1)) (W.alloc (.cells (bcs (List.replicate (M + 1) false)) 4)) := fun W => run_mkB (M + 1) (by omega) W
  have hs : ∀ z ∈ Z, ∃ a m k, z.2 = .slice a m k := fun z hz => by obtain ⟨a, k, h, _⟩ := hfr z hz; exact ⟨a, _, k, h⟩
  have f0 : ∀ o, ((w.alloc (.cells (bcs (List.replicate (M + 1) false)) 4)).alloc o).cell? ⟨w.heap.size, M, none⟩ = some (.bool false) := fun o => by
    rw [World.cell?_alloc_past _ _ _ (by simp), cell_of_row _ _ M _ 4 (0, 0) (heap_alloc_new w _), bcs_at (by simp)]
    simp
  have f1 : ∀ o, ((w.alloc (.cells (bcs (List.replicate (M + 1) false)) 4)).alloc o).frozen? ⟨w.heap.size, M, none⟩ = false := fun o => by
    refine frozen_of_row _ _ M (bcs (List.replicate (M + 1) false)) 4 ?_
    rw [heap_alloc_old _ _ (by simp)]
    exact heap_alloc_new w _
  have e1 : ((M + 1 : Nat) : Int) - 1 = (M : Int) := by omega
  refine (callsIn_wide (n := 5)).1 ?_
  refine callsIn_of_wp_marks Try.func19 rfl trivial (wpIn_wide.2 ?_) rfl
  simp only [Try.ntmps19, List.size_toArray, List.length_cons, List.length_nil, Nat.reduceAdd, Nat.reduceSub, Array.replicate_succ, Array.replicate_zero, List.push_toArray, List.append_toArray, List.nil_append, List.cons_append]
  go_wp2_with (go_at_call 33; refine (back_any _ _ ⟨_, _, _, rfl⟩).mono ?_; rintro e w5 ⟨rfl, rfl⟩)
  rw [bcs_set]
  clear hmk f0 f1 e1
  obtain ⟨bs0, hbs0⟩ : ∃ b, (List.replicate (M + 1) false).set M true = b := ⟨_, rfl⟩
  rw [hbs0]
  have hbl0 : bs0.length = M + 1 := by rw [← hbs0]; simp
  have hbt0 : bs0[M]? = some true := by rw [← hbs0]; simp
  clear hbs0
  have t3 := Cp.three w (.cells (bcs bs0) 4) (.cells #[.slice (some ⟨w.heap.size, 0, none⟩) (M + 1) (M + 1)] 65) (.cells #[.slice (some ⟨gb, 0, none⟩) (M + 1) cap] 25)
  have s3 : (((w.alloc (.cells (bcs bs0) 4)).alloc (.cells #[.slice (some ⟨w.heap.size, 0, none⟩) (M + 1) (M + 1)] 65)).alloc (.cells #[.slice (some ⟨gb, 0, none⟩) (M + 1) cap] 25)).heap.size = w.heap.size + 3 := by simp
  obtain ⟨V, hV⟩ : ∃ V, ((w.alloc (.cells (bcs bs0) 4)).alloc (.cells #[.slice (some ⟨w.heap.size, 0, none⟩) (M + 1) (M + 1)] 65)).alloc (.cells #[.slice (some ⟨gb, 0, none⟩) (M + 1) cap] 25) = V := ⟨_, rfl⟩
  rw [hV] at t3 s3 ⊢
  clear hV
  obtain ⟨t1, t2, t3, tb⟩ := t3
  have hgl : gb < w.heap.size := by obtain ⟨c, hc, _⟩ := hZ; exact (Array.getElem?_eq_some_iff.1 hc).1
  have hZV : LiesZ V gb Z := hZ.of_block (tb.block gb hgl)
  have hfV : ∀ z ∈ Z, IsN V z.2 z.1.2.2 := fun z hz => (hfr z hz).below tb
  have hLl : (Z.map Prod.fst).length = M + 1 := by rw [List.length_map]; exact hM
  obtain ⟨L, hL⟩ : ∃ L, Z.map Prod.fst = L := ⟨_, rfl⟩
  rw [hL] at hah hLl
  rw [← hM] at t3
  refine wpIn_wide.1 (range_tells (n := 5) rfl (by omega) (gf := 48) (lb := #[.pointer (some ⟨w.heap.size + 1 + 1, 0, none⟩)]) rfl trivial (enters_of Try.func48 (by kernel_rfl) rfl)
    (back_tells Z gb cap (w.heap.size + 1 + 1) (5 - 1) V (by omega) (by omega) hZV t3 hs) (Below.refl _ _) ?hX (fun _ => rfl) (Inv M L w.heap.size V) ?hI ?hO (fun q => q = w.heap.size) ?h0 ?hround ?hdone)
  case hX =>
    rintro q (rfl | rfl) <;> omega
  case hI =>
    intro pre O A B hi _ hp
    exact hi.past hp (by omega) (by omega)
  case hO =>
    intro pre O A q hi hq
    have h1 := hi.own
    have h2 := hi.ko.size
    rw [h1] at hq
    subst hq
    refine ⟨?_, by omega, by omega, by omega⟩
    rintro (h | h) <;> omega
  case h0 =>
    intro A hA
    refine ⟨rfl, ⟨bs0, hbl0, hbt0, ?_, (hA.block _ (by omega)).trans t1⟩, ⟨hA.os, hA.tape, hA.output, hA.size, fun k hk _ => hA.block k hk⟩⟩
    intro i l hi hl
    have := (List.getElem?_eq_some_iff.1 hl).1
    simp only [List.length_nil] at hi
    omega
  case hround =>
    rintro pre O ⟨i, ⟨⟨r, ⟨s0, s1, s2⟩, fr⟩, fv⟩⟩ A hA hrec hinv ⟨hi, hZi⟩
    dsimp only at hi hZi
    have hzm : ((r, (s0, s1, s2), fr), fv) ∈ Z := List.mem_of_getElem? hZi
    obtain ⟨fa, fk, hfv, hfc⟩ := hfV _ hzm
    dsimp only at hfv hfc
    subst hfv
    have hfb : fr.length = 0 ∨ ∃ b off, fa = some ⟨b, off, none⟩ ∧ b < V.heap.size ∧ b ≠ w.heap.size ∧ ∀ j (hj : j < fr.length), V.cell? ⟨b, off + j, none⟩ = some (.int .i64 fr[j]) := by
      rcases hfc with ⟨_, _, h⟩ | ⟨b, off, cur, fz, ha, hb, hc⟩
      · exact .inl (by rw [h]; rfl)
      · refine .inr ⟨b, off, ha, (Array.getElem?_eq_some_iff.1 hb).1, fun e => ?_, fun j hj => ?_⟩
        · rw [e, t1] at hb
          cases hb
        · rw [cell_of_row V b _ cur 3 fz hb]
          exact hc j _ (List.getElem?_eq_getElem hj)
    have HFB : Hid _ := hfb
    have hfl : fr.length ≤ 1000 := hsh _ hzm
    clear hfb hfc
    refine ⟨?a1, A.alloc (.cells #[.int .i64 r, .bool s0, .int .i64 s1, .int .i64 s2, .slice fa fr.length fk] 38), ?ass, (Below.refl _ A).alloc (Nat.le_refl _) _, ?bdy⟩
    case ass =>
      intro K hK
      simp only [encs]
      gi_wp2
      exact hK
    case bdy =>
      intro rr
      obtain ⟨A', hA'⟩ : ∃ A', (A.alloc (.cells #[.int .i64 r, .bool s0, .int .i64 s1, .int .i64 s2, .slice fa fr.length fk] 38)).putObj (V.heap.size + 1) (.loop rr) = A' := ⟨_, rfl⟩
      have hP : Past (V.heap.size + 1) A A' := by rw [← hA']; exact (Past.of_below ((Below.refl _ A).alloc (Nat.le_refl _) _)).trans (Past.put _ _ _)
      have hrA : IsRec (V.heap.size + 1) (A.alloc (.cells #[.int .i64 r, .bool s0, .int .i64 s1, .int .i64 s2, .slice fa fr.length fk] 38)) := by
        obtain ⟨r', hr'⟩ := hrec
        exact ⟨r', (heap_alloc_old _ _ (Array.getElem?_eq_some_iff.1 hr').1).trans hr'⟩
      have hP2 : Past (V.heap.size + 1) (A.alloc (.cells #[.int .i64 r, .bool s0, .int .i64 s1, .int .i64 s2, .slice fa fr.length fk] 38)) A' := by rw [← hA']; exact Past.put _ _ _
      have z0 : A'.cell? ⟨A.heap.size, 0, none⟩ = some (.int .i64 r) := past_cell hrA hP2 (cell_of_row _ _ 0 _ 38 (0, 0) (heap_alloc_new A _))
      have z4 : A'.cell? ⟨A.heap.size, 4, none⟩ = some (.slice fa fr.length fk) := past_cell hrA hP2 (cell_of_row _ _ 4 _ 38 (0, 0) (heap_alloc_new A _))
      have hinv' := hinv.past hP (by omega) (by omega)
      rw [hA']
      clear hA' hP2 hrA hinv hrec
      obtain ⟨hO', ⟨bs, hbl, hbt, hcl, hblk⟩, hko⟩ := hinv'
      subst hO'
      have hLi : L[i]? = some (r, (s0, s1, s2), fr) := by rw [← hL, List.getElem?_map, hZi]; rfl
      have hiM : i < M + 1 := by omega
      have hcl' : Closed bs L (i + 1) := by have e : M + 1 - pre.length = i + 1 := by omega
                                            rw [← e]; exact hcl
      have hvs := hko.size
      have bB : A'.cell? ⟨w.heap.size + 1, 0, none⟩ = some (.slice (some ⟨w.heap.size, 0, none⟩) (M + 1) (M + 1)) := cell_of_row _ _ 0 _ 65 (0, 0) ((hko.block _ (by omega) (by omega)).trans t2)
      obtain ⟨bi, hbi⟩ : ∃ b, bs[i]'(by omega) = b := ⟨_, rfl⟩
      have bC : A'.cell? ⟨w.heap.size, i, none⟩ = some (.bool bi) := by rw [cell_of_row _ _ i _ 4 (0, 0) hblk, bcs_at (by omega), hbi]
      have hbi' : bs[i]? = some bi := by rw [List.getElem?_eq_getElem (by omega), hbi]
      have HR0 : Hid (Rd w.heap.size A' bs bs i A') := Rd.refl i hblk
      have HKO : Hid _ := hko
      have HLi : Hid _ := hLi
      have HCL : Hid _ := hcl'
      have HBI : Hid _ := hbi'
      clear hbi hcl hcl' hko hLi hbi' hfV t1 t2 t3
      cases bi with
      | false =>
        gi_wp2
        exact Rd.ends HR0.out HKO.out HLi.out hbl hbt HCL.out (by omega) (fun h => by rw [HBI.out] at h; cases h)
      | true =>
        by_cases hr1 : r = 1
        · subst hr1
          gi_wp2
          exact Rd.ends HR0.out HKO.out HLi.out hbl hbt HCL.out (by omega) (fun _ h => absurd rfl h)
        · have hne : (r != 1) = true := by simpa using hr1
          have hAh := hah i _ HLi.out hr1
          dsimp only at hAh
          have HAh : Hid _ := hAh
          have hHO : Hid _ := HR0.out
          clear hAh
          gi_wp2
          gi_loopw [36] (fun iv wr => ∃ (k : Nat) (bs' : List Bool), iv = .int .i64 (k : Int) ∧ k ≤ fr.length ∧ Rd w.heap.size A' bs bs' i wr ∧ ∀ n ∈ fr.take k, bs'[n.toNat]? = some true) (fun iv _ => fr.length - (intOf iv).toNat)
          case atStart => exact ⟨0, bs, rfl, Nat.zero_le _, HR0.out, fun n hn => by simp at hn⟩
          case round =>
            obtain ⟨k, bs', rfl, hk, hrd, hmk⟩ := hrel
            clear HR0 hHO bC
            by_cases hlt : k < fr.length
            · obtain ⟨b, off, rfl, hbV, hbn, hcs⟩ := HFB.out.resolve_left (by omega)
              obtain ⟨x, hx⟩ : ∃ x, fr[k] = x := ⟨_, rfl⟩
              have hxr := HAh.out x (hx ▸ List.getElem_mem hlt)
              obtain ⟨m, rfl⟩ : ∃ m : Nat, x = (m : Int) := ⟨x.toNat, by omega⟩
              have hm : m < i := by omega
              have has := HKO.out.size
              have hblk2 : wr.heap[b]? = V.heap[b]? := (hrd.ko.block b (by omega) hbn).trans (HKO.out.block b hbV hbn)
              have d0 : wr.cell? ⟨b, off + k, none⟩ = some (.int .i64 (m : Int)) := by rw [World.cell?_of_block (w := V) (a := ⟨b, off + k, none⟩) hblk2, hcs k hlt, hx]
              have d1 : wr.cell? ⟨w.heap.size + 1, 0, none⟩ = some (.slice (some ⟨w.heap.size, 0, none⟩) (M + 1) (M + 1)) := (World.cell?_of_block (w := A') (a := ⟨w.heap.size + 1, 0, none⟩) (hrd.ko.block (w.heap.size + 1) (by omega) (by omega))).trans bB
              have hml : m < bs'.length := by rw [hrd.len]; omega
              have hm1 : m < M + 1 := by omega
              have d2 : wr.cell? ⟨w.heap.size, m, none⟩ = some (.bool bs'[m]) := by rw [cell_of_row _ _ m _ 4 (0, 0) hrd.blk, bcs_at hml]
              have d3 : wr.frozen? ⟨w.heap.size, m, none⟩ = false := frozen_of_row _ _ m _ 4 hrd.blk
              have HX : Hid (fr[k] = (m : Int)) := hx
              have HRD : Hid _ := hrd
              have HMK : Hid _ := hmk
              have HML : Hid (m < bs'.length) := hml
              clear hx hrd hmk hcs hblk2 hxr bB
              gi_wp2
              go_roundw
              case rel =>
                refine ⟨k + 1, bs'.set m true, by go_num, hlt, HRD.out.mark hm, fun n hn => ?_⟩
                rw [List.take_succ_eq_append_getElem hlt, List.mem_append, List.mem_singleton, HX.out] at hn
                rw [List.getElem?_set]
                split
                · first | rfl | rw [if_pos HML.out]
                · rename_i hne'
                  rcases hn with hn | hn
                  · exact HMK.out n hn
                  · exact absurd (by rw [hn]; rfl) hne'
              case measure => simp [intOf]; omega
            · have ek : k = fr.length := by omega
              subst ek
              rw [List.take_length] at hmk
              gi_wp2
              exact Rd.ends hrd HKO.out HLi.out hbl hbt HCL.out (by omega) (fun _ _ => hmk)
  case hdone =>
    rintro ys O A hA hS hinv hdf
    have s3a : V.heap.size ≤ w.heap.size + 3 := by omega
    have s3b : w.heap.size + 3 ≤ V.heap.size := by omega
    clear s3
    obtain ⟨_, ⟨bs, hbl, hbt, hcl, hblk⟩, hko⟩ := hinv
    have hcl0 : Closed bs L 0 := by have e : M + 1 - ys.length = 0 := by omega
                                    rw [← e]; exact hcl
    have hmk2 : ∀ W, (Instr.makeSlice 29 (.int .i64 ((M : Int) + 1)) (.int .i64 ((M : Int) + 1))).run Try.prog W = .ok (.slice (some ⟨W.heap.size, 0, none⟩) (M + 1) (M + 1)) (W.alloc (.cells (nc (List.replicate (M + 1) 0)).toArray 3)) := fun W => run_mkI (M + 1) (by omega) W
    have hvs := hko.size
    have bB : A.cell? ⟨w.heap.size + 1, 0, none⟩ = some (.slice (some ⟨w.heap.size, 0, none⟩) (M + 1) (M + 1)) := cell_of_row _ _ 0 _ 65 (0, 0) ((hko.block _ (by omega) (by omega)).trans t2)
    have hZA : LiesZ A gb Z := hZV.of_block (hko.block gb (by omega) (by omega))
    have hBA : Below w.heap.size w A := tb.trans ⟨hko.os, hko.tape, hko.output, hko.size, fun k hk => hko.block k (by omega) (by omega)⟩
    have HBA : Hid _ := hBA
    have HZA : Hid (LiesZ A gb Z) := hZA
    have HFR : Hid (∀ z ∈ Z, IsN w z.2 z.1.2.2) := hfr
    have HCL : Hid (Closed bs L 0) := hcl0
    have HBLK : Hid (A.heap[w.heap.size]? = some (.cells (bcs bs) 4 (0, 0))) := hblk
    have HDF : Hid _ := hdf
    have HAH : Hid (Ahead L) := hah
    have HSH : Hid (∀ z ∈ Z, z.1.2.2.length ≤ 1000) := hsh
    have hql : w.heap.size + 3 < A.heap.size := by omega
    have HVA : Hid (V.heap.size < A.heap.size) := by show V.heap.size < A.heap.size; omega
    clear hcl hcl0 hblk hko hBA hZA hfr hfV hah hs hsh hdf hZV hZ t1 t2 t3 tb hS
    go_wp2
    have h0 := lp_new A bs L (M + 1)
    have H0 : Hid _ := h0
    clear h0 hmk2
    go_loopw [8, 49] (fun v iv wr => ∃ (k : Nat) (ns : List Int) (Z' : List (Ln × Value)), iv = .int .i64 (k : Int) ∧ k ≤ M + 1 ∧ ns.length = M + 1 ∧ NsOk bs ns k ∧ Lp A.heap.size A bs L k ns Z' v wr) (fun _ iv _ => M + 1 - (intOf iv).toNat)
    case atStart => exact ⟨0, _, [], rfl, Nat.zero_le _, by simp, fun j hj => absurd hj (Nat.not_lt_zero _), H0.out⟩
    case round =>
      obtain ⟨k, ns, Z', rfl, hk, hnl, hns, hlp⟩ := hrel
      clear H0
      obtain ⟨av, cv, hv⟩ : ∃ a c, u8 = .slice a Z'.length c := by
        rcases hlp.row.2 with ⟨h1, h2⟩ | ⟨gg, cap, _, h1, _⟩
        · exact ⟨none, 0, by rw [h1, h2]⟩
        · exact ⟨_, _, h1⟩
      subst hv
      have hZl : Hid (Z'.length = (bs.take k).count true) := by show Z'.length = (bs.take k).count true; rw [← keptL_len bs L k (by omega) (by omega), ← hlp.fst, List.length_map]
      by_cases hlt : k < M + 1
      · have hkZ : k < Z.length := by omega
        have q2 : decide ((k : Int) < (M : Int) + 1) = true := by simp; omega
        have q3 : decide (k < M + 1) = true := by simp; omega
        have hat := zcs_at Z k hkZ
        obtain ⟨⟨⟨r, ⟨s0, s1, s2⟩, fr⟩, fv⟩, hz⟩ : ∃ z, Z[k] = z := ⟨_, rfl⟩
        have hfN := HFR.out _ (List.getElem_mem hkZ)
        have hfs := HSH.out _ (List.getElem_mem hkZ)
        rw [hz] at hat hfN hfs
        obtain ⟨fa, fk, hfv, _⟩ := id hfN
        dsimp only at hfv hat hfN hfs
        subst hfv
        have hLk : L[k]? = some (r, (s0, s1, s2), fr) := by rw [← hL, List.getElem?_map, List.getElem?_eq_getElem hkZ, hz]; rfl
        have c0 : wr.cell? ⟨gb, k * 5, none⟩ = some (.int .i64 r) := (hlp.bel.cell (p := ⟨gb, k * 5, none⟩) (by show gb < A.heap.size; omega)).trans (HZA.out.cell hat.1)
        have c1 : wr.cell? ⟨gb, k * 5 + 1, none⟩ = some (.bool s0) := (hlp.bel.cell (p := ⟨gb, k * 5 + 1, none⟩) (by show gb < A.heap.size; omega)).trans (HZA.out.cell hat.2.1)
        have c2 : wr.cell? ⟨gb, k * 5 + 2, none⟩ = some (.int .i64 s1) := (hlp.bel.cell (p := ⟨gb, k * 5 + 2, none⟩) (by show gb < A.heap.size; omega)).trans (HZA.out.cell hat.2.2.1)
        have c3 : wr.cell? ⟨gb, k * 5 + 3, none⟩ = some (.int .i64 s2) := (hlp.bel.cell (p := ⟨gb, k * 5 + 3, none⟩) (by show gb < A.heap.size; omega)).trans (HZA.out.cell hat.2.2.2.1)
        have c4 : wr.cell? ⟨gb, k * 5 + 4, none⟩ = some (.slice fa fr.length fk) := (hlp.bel.cell (p := ⟨gb, k * 5 + 4, none⟩) (by show gb < A.heap.size; omega)).trans (HZA.out.cell hat.2.2.2.2)
        have hqs := hlp.lt
        obtain ⟨bk, hbk⟩ : ∃ b, bs[k]'(by omega) = b := ⟨_, rfl⟩
        have hbk' : bs[k]? = some bk := by rw [List.getElem?_eq_getElem (by omega), hbk]
        have d1 : ∀ o, (wr.alloc o).cell? ⟨w.heap.size + 1, 0, none⟩ = some (.slice (some ⟨w.heap.size, 0, none⟩) (M + 1) (M + 1)) := fun o => (World.cell?_alloc_past _ _ _ (by show w.heap.size + 1 < wr.heap.size; omega)).trans ((hlp.bel.cell (p := ⟨w.heap.size + 1, 0, none⟩) (by show w.heap.size + 1 < A.heap.size; omega)).trans bB)
        have d2 : ∀ o, (wr.alloc o).cell? ⟨w.heap.size, k, none⟩ = some (.bool bk) := fun o => (World.cell?_alloc_past _ _ _ (by show w.heap.size < wr.heap.size; omega)).trans ((hlp.bel.cell (p := ⟨w.heap.size, k, none⟩) (by show w.heap.size < A.heap.size; omega)).trans (by rw [cell_of_row _ _ k _ 4 (0, 0) HBLK.out, bcs_at (by omega), hbk]))
        have HLP : Hid (Lp A.heap.size A bs L k ns Z' (.slice av Z'.length cv) wr) := hlp
        have HNS : Hid (NsOk bs ns k) := hns
        have HBK : Hid (bs[k]? = some bk) := hbk'
        have HLk : Hid _ := hLk
        have HFN : Hid _ := hfN
        clear hat hz hbk hbk' hns hLk hfN bB
        cases bk with
        | false =>
          clear hlp
          go_wp2
          go_roundw
          case rel => exact ⟨k + 1, ns, Z', by go_num, hlt, hnl, HNS.out.no HBK.out, lp_no (HLP.out.alloc _) HBK.out⟩
          case measure => simp [intOf]; omega
        | true =>
          obtain ⟨nk, hnk⟩ : ∃ x, ns[k]'(by omega) = x := ⟨_, rfl⟩
          have f1 : ∀ o, (wr.alloc o).cell? ⟨A.heap.size, k, none⟩ = some (.int .i64 nk) := fun o => by rw [cell_of_row _ _ k _ 3 (0, 0) (hlp.alloc o).num, List.getElem?_toArray, nc_at (by omega), hnk]
          have f2 : ∀ o, (wr.alloc o).frozen? ⟨A.heap.size, k, none⟩ = false := fun o => frozen_of_row _ _ k _ 3 (hlp.alloc o).num
          clear hlp hnk
          go_upto_region 18 with fail
          go_cut [] from 59 to 63 (fun wx => Lp A.heap.size A bs L k (ns.set k (Z'.length : Int)) Z' (.slice av Z'.length cv) wx ∧ wx.heap[wr.heap.size]? = some (.cells #[.int .i64 r, .bool s0, .int .i64 s1, .int .i64 s2, .slice fa fr.length fk] 38 (0, 0)))
          case first =>
            go_wp2_with fail
            go_meet
            case rel =>
              refine ⟨(HLP.out.setNum k _).alloc _, ?_⟩
              have hnw := heap_alloc_new (wr.setCell ⟨A.heap.size, k, none⟩ (.int .i64 (Z'.length : Int))) (.cells #[.int .i64 r, .bool s0, .int .i64 s1, .int .i64 s2, .slice fa fr.length fk] 38)
              simpa using hnw
          case rest =>
          obtain ⟨hlp2, hbox⟩ := hcut
          clear f1 f2 d1 d2 c0 c1 c2 c3 c4
          have hnl2 : (ns.set k (Z'.length : Int)).length = M + 1 := by rw [List.length_set]; exact hnl
          have hns2 : NsOk bs (ns.set k (Z'.length : Int)) (k + 1) := by rw [hZl.out]; exact HNS.out.yes (by omega)
          have HNS1 : Hid (NsOk bs (ns.set k (Z'.length : Int)) k) := fun j hj hb => hns2 j (by omega) hb
          have HNS2 : Hid _ := hns2
          obtain ⟨ns', hns'⟩ : ∃ x, ns.set k (Z'.length : Int) = x := ⟨_, rfl⟩
          rw [hns'] at hlp2 hnl2 HNS1 HNS2
          have b0 : wc.cell? ⟨wr.heap.size, 0, none⟩ = some (.int .i64 r) := cell_of_row _ _ 0 _ 38 (0, 0) hbox
          have b1 : wc.cell? ⟨wr.heap.size, 1, none⟩ = some (.bool s0) := cell_of_row _ _ 1 _ 38 (0, 0) hbox
          have b2 : wc.cell? ⟨wr.heap.size, 2, none⟩ = some (.int .i64 s1) := cell_of_row _ _ 2 _ 38 (0, 0) hbox
          have b3 : wc.cell? ⟨wr.heap.size, 3, none⟩ = some (.int .i64 s2) := cell_of_row _ _ 3 _ 38 (0, 0) hbox
          have b4 : wc.cell? ⟨wr.heap.size, 4, none⟩ = some (.slice fa fr.length fk) := cell_of_row _ _ 4 _ 38 (0, 0) hbox
          have hbw : Below w.heap.size w wc := HBA.out.trans (hlp2.bel.mono (by omega))
          have hfP : IsNP A.heap.size wc (.slice fa fr.length fk) fr := (IsNP.of_lt HFN.out (by omega)).kept (K3.of_below hbw)
          have HLP2 : Hid (Lp A.heap.size A bs L k ns' Z' (.slice av Z'.length cv) wc) := hlp2
          have HFP : Hid (IsNP A.heap.size wc (.slice fa fr.length fk) fr) := hfP
          have HBX : Hid (wc.heap[wr.heap.size]? = some (.cells #[.int .i64 r, .bool s0, .int .i64 s1, .int .i64 s2, .slice fa fr.length fk] 38 (0, 0))) := hbox
          have hwc := hlp2.lt
          have hZn : Z'.length < 100000 := by
            have := List.count_le_length (a := true) (l := bs.take k)
            rw [List.length_take] at this
            have := hZl.out
            omega
          obtain ⟨i0, hi, hz0, hz1, hz2⟩ := info_parts Pt.info36
          clear hns2 hns' hbw hfP hlp2 hbox hZl
          by_cases hr1 : r = 1
          · subst hr1
            go_wp2_with (refine wpList_append_own_at _ rfl _ _ 25 rfl (A.heap.size + 1) 38 i0 (.agg #[.int .i64 0, .bool false, .int .i64 0, .int .i64 0, .slice none 0 0]) 5 56 Try.underlying25 hi hz0 hz1 hz2 rfl (by decide) _ _ _ rfl (HLP2.out.alloc _).row ⟨_, 0, none⟩ 1 1 [.int .i64 1, .bool s0, .int .i64 s1, .int .i64 s2, .slice fa fr.length fk] rfl rfl (Pt.cell_five_at _ _ _ _ _ _ _ _ (by simp)) (Pt.five_one _ _ _ _ _ _ _) (by unfold maxLen; omega) (by omega) (by simp; omega) ?_; intro v1 w1 ho1 hg1 _ _; have HD : Hid _ := (HLP2.out.alloc _).app HBK.out HLk.out (show renum bs (1, (s0, s1, s2), fr) = (1, (s0, s1, s2), fr) from rfl) (HFP.out.kept (K3.of_below ((Below.refl _ _).alloc (Nat.le_refl _) _))) ho1 hg1; clear ho1 hg1)
            go_roundw
            case rel => exact ⟨k + 1, ns', _, by go_num, hlt, hnl2, HNS2.out, HD.out⟩
            case measure => simp [intOf]; omega
          · have hne : (r != 1) = true := by simpa using hr1
            have hAh := HAH.out k _ HLk.out hr1
            have hClk := HCL.out k _ (Nat.zero_le _) HLk.out HBK.out hr1
            dsimp only at hAh hClk
            have hren := renum_yes (c := (s0, s1, s2)) HNS1.out hr1 hAh hClk
            have HREN : Hid _ := hren
            have con := Kp.renumbered_own (.slice fa fr.length fk) (.slice (some ⟨A.heap.size, 0, none⟩) (M + 1) (M + 1)) fr ns' wc HFP.out.isN (lp_numN HLP2.out hnl2 (M + 1)) (by omega) (fun x hx => by have := hAh x hx; omega)
            clear hAh hClk hren
            go_wp2_with (first | (go_at_call 34; refine con.mono ?_; rintro e w2 ⟨v2, rfl, ho2, hb2⟩; obtain ⟨a2, k2, hv2, _⟩ := own_isN ho2; rw [List.length_map] at hv2; subst hv2; have hbxl : wr.heap.size < wc.heap.size := (Array.getElem?_eq_some_iff.1 HBX.out).1; have hbx2 : w2.heap[wr.heap.size]? = some (.cells #[.int .i64 r, .bool s0, .int .i64 s1, .int .i64 s2, .slice fa fr.length fk] 38 (0, 0)) := (hb2.block _ hbxl).trans HBX.out; have g0 := cell_of_row _ _ 0 _ 38 (0, 0) hbx2; have g1 := cell_of_row _ _ 1 _ 38 (0, 0) hbx2; have g2 := cell_of_row _ _ 2 _ 38 (0, 0) hbx2; have g3 := cell_of_row _ _ 3 _ 38 (0, 0) hbx2; have g4 := cell_of_row _ _ 4 _ 38 (0, 0) hbx2; have g5 := frozen_of_row _ _ 4 _ 38 hbx2; dsimp at g0 g1 g2 g3 g4; have HO2 : Hid _ := ho2; have HB2 : Hid (Below wc.heap.size wc w2) := hb2; have HBX2 : Hid _ := hbx2; have hv0 : (Value.slice av Z'.length cv).ownBlock ≠ some wr.heap.size := fun e => (Nat.lt_irrefl _ (HLP.out.row.lt _ e).2); have hlp3 := (HLP2.out.below hb2).setBox hbx2 (by omega) hv0 4 (.slice a2 fr.length k2); have HLP3 : Hid _ := hlp3; have hw2q := (HLP2.out.below hb2).lt; have hfp3 : IsNP A.heap.size (w2.setCell ⟨wr.heap.size, 4, none⟩ (.slice a2 fr.length k2)) (.slice a2 fr.length k2) (fr.map fun x => ns'.getD x.toNat 0) := (IsNP.of_own ho2 (by omega)).kept (fun b cur fz _ hb => (Below.heap_setCell _ _ _ _ (fun e => by dsimp only at e; rw [e, hbx2] at hb; cases hb)).trans hb); have HFP3 : Hid _ := hfp3; clear ho2 hb2 hbx2 b0 b1 b2 b3 b4 hlp3 hfp3 hv0 con) | (refine wpList_append_own_at _ rfl _ _ 25 rfl (A.heap.size + 1) 38 i0 (.agg #[.int .i64 0, .bool false, .int .i64 0, .int .i64 0, .slice none 0 0]) 5 56 Try.underlying25 hi hz0 hz1 hz2 rfl (by decide) _ _ _ rfl (HLP3.out.alloc _).row ⟨_, 0, none⟩ 1 1 [.int .i64 r, .bool s0, .int .i64 s1, .int .i64 s2, .slice a2 fr.length k2] rfl rfl (Pt.cell_five_at _ _ _ _ _ _ _ _ (by simp)) (Pt.five_one _ _ _ _ _ _ _) (by unfold maxLen; omega) (by omega) (by simp; omega) ?_; intro v1 w1 ho1 hg1 _ _; have HD : Hid _ := (HLP3.out.alloc _).app HBK.out HLk.out HREN.out (IsNP.kept HFP3.out (K3.of_below ((Below.refl _ _).alloc (Nat.le_refl _) _))) ho1 hg1; clear ho1 hg1))
            go_roundw
            case rel => exact ⟨k + 1, ns', _, by go_num, hlt, hnl2, HNS2.out, HD.out⟩
            case measure => simp [intOf]; omega
      · have ek : k = M + 1 := by omega
        subst ek
        have HLP : Hid _ := hlp
        clear hlp
        go_wp2
        refine ⟨by simp, .inl ⟨_, _, rfl, run_takeDeferred ((HLP.out.bel.block _ HVA.out).trans HDF.out), ?_⟩⟩
        have hP := Past.put V.heap.size wr (.deferred none)
        refine ⟨_, results_tmp rfl _ _ _, _, bs, rfl, hbl, hbt, by rw [hL]; exact HCL.out, ?_, ?_⟩
        · rw [hL, ← HLP.out.fst]
          refine ⟨Z', rfl, ?_, fun z hz => ?_⟩
          · rw [List.length_map]
            have hh := own_past hP HLP.out.row (by have := HVA.out; omega)
            exact ⟨hh.1, hh.2.imp id (fun ⟨g, c, cur, h1, h2, h3⟩ => ⟨g, c, cur, h1, by omega, h3⟩)⟩
          · refine (HLP.out.frm z hz).isN.of_kept fun b cur fz hb => ?_
            refine (hP.block b (Array.getElem?_eq_some_iff.1 hb).1 (fun e => ?_)).trans hb
            rw [e, (HLP.out.bel.block _ HVA.out).trans HDF.out] at hb
            cases hb
        · refine HBA.out.trans ((HLP.out.bel.mono (by omega)).trans ⟨hP.os, hP.tape, hP.output, hP.size, fun b hb => hP.block b (by have := HLP.out.lt; omega) (by omega)⟩)
end Go.Proofs.Ytcnanbimpajonaa.Nd
