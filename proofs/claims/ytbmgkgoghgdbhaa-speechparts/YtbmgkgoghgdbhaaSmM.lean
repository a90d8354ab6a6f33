/- taking; the search from a part, in plain words. No conditions. -/
import Derived.Test.YtbmgkgoghgdbhaaSj
namespace Go.Proofs.Ytbmgkgoghgdbhaa.Te
open Go.RowKit

theorem results_37 {fn : Func} {p u : Tmp} (h : fn.results = #[.cell p 37, .tmp u]) (tmps : Array Value) (w : World) (g1 : Nat) (cs : Array Value) (hp : tmps.getD p undef = .pointer (some ⟨g1, 0, none⟩)) (h1 : w.heap[g1]? = some (.cells cs 37 (0, 0))) (hc : cs.size = 8) : (results fn tmps).run Try.prog w = .ok (.tuple #[.agg cs, tmps.getD u undef]) w := by
  have l1 := run_loadVar_row (P := Try.prog) w g1 37 37 cs (0, 0) _ h1 Try.underlying37 rfl (by rw [hc]; exact size37)
  unfold results
  rw [h]
  rw [Array.getD_eq_getD_getElem?] at hp
  simp [hp, asAddr, l1]
/-- eight cells are written over -/
theorem ko8 (w : World) (b : Nat) (v0 v1 v2 v3 v4 v5 v6 v7 : Value) (g : Nat) (hg : g ≠ b) : ((((((((w.setCell ⟨b, 0, none⟩ v0).setCell ⟨b, 1, none⟩ v1).setCell ⟨b, 2, none⟩ v2).setCell ⟨b, 3, none⟩ v3).setCell ⟨b, 4, none⟩ v4).setCell ⟨b, 5, none⟩ v5).setCell ⟨b, 6, none⟩ v6).setCell ⟨b, 7, none⟩ v7).heap[g]? = w.heap[g]? := by
  rw [heap_setCell_other _ _ _ _ hg, heap_setCell_other _ _ _ _ hg, heap_setCell_other _ _ _ _ hg, heap_setCell_other _ _ _ _ hg, heap_setCell_other _ _ _ _ hg, heap_setCell_other _ _ _ _ hg, heap_setCell_other _ _ _ _ hg, heap_setCell_other _ _ _ _ hg]
theorem laid8 {w : World} {b : Nat} {u0 u1 u2 u3 u4 u5 u6 u7 : Value} (h : w.heap[b]? = some (.cells #[u0, u1, u2, u3, u4, u5, u6, u7] 37 (0, 0))) (v0 v1 v2 v3 v4 v5 v6 v7 : Value) : ((((((((w.setCell ⟨b, 0, none⟩ v0).setCell ⟨b, 1, none⟩ v1).setCell ⟨b, 2, none⟩ v2).setCell ⟨b, 3, none⟩ v3).setCell ⟨b, 4, none⟩ v4).setCell ⟨b, 5, none⟩ v5).setCell ⟨b, 6, none⟩ v6).setCell ⟨b, 7, none⟩ v7).heap[b]? = some (.cells #[v0, v1, v2, v3, v4, v5, v6, v7] 37 (0, 0)) := by
  have h0 := heap_setCell_same w b 0 _ 37 v0 h
  have h1 := heap_setCell_same _ b 1 _ 37 v1 h0
  have h2 := heap_setCell_same _ b 2 _ 37 v2 h1
  have h3 := heap_setCell_same _ b 3 _ 37 v3 h2
  have h4 := heap_setCell_same _ b 4 _ 37 v4 h3
  have h5 := heap_setCell_same _ b 5 _ 37 v5 h4
  have h6 := heap_setCell_same _ b 6 _ 37 v6 h5
  have h7 := heap_setCell_same _ b 7 _ 37 v7 h6
  simpa using h7
theorem below8 {n : Nat} {w w' : World} (h : Below n w w') {b : Nat} (hb : n ≤ b) (v0 v1 v2 v3 v4 v5 v6 v7 : Value) : Below n w ((((((((w'.setCell ⟨b, 0, none⟩ v0).setCell ⟨b, 1, none⟩ v1).setCell ⟨b, 2, none⟩ v2).setCell ⟨b, 3, none⟩ v3).setCell ⟨b, 4, none⟩ v4).setCell ⟨b, 5, none⟩ v5).setCell ⟨b, 6, none⟩ v6).setCell ⟨b, 7, none⟩ v7) :=
  (((((((h.setCell (p := ⟨b, 0, none⟩) hb v0).setCell (p := ⟨b, 1, none⟩) hb v1).setCell (p := ⟨b, 2, none⟩) hb v2).setCell (p := ⟨b, 3, none⟩) hb v3).setCell (p := ⟨b, 4, none⟩) hb v4).setCell (p := ⟨b, 5, none⟩) hb v5).setCell (p := ⟨b, 6, none⟩) hb v6).setCell (p := ⟨b, 7, none⟩) hb v7
/-- the step by which a part gets what it wants out of n beside it -/
def takeP (l : List Ty) (g : Ty) (k n : Nat) (kd : Int) : Pf := if kd = 3 then ⟨5, l, g, (k : Int) - n, n, []⟩ else ⟨4, l, g, (k : Int) + 1, n, []⟩
def takeN (k n : Nat) (kd : Int) : Int := if kd = 3 then (k : Int) - n else k
def TakeQ (p : Pf) (th : Int) (x : Pl) (w : World) (e : Ending) (w' : World) : Prop := e = .returned (.tuple #[vpf p x, .int .i64 th]) ∧ Below w.heap.size w w'
set_option maxRecDepth 100000 in
set_option maxHeartbeats 1000000 in
theorem take_any {P : Nat → Prop} {d : Nat} (l : List Ty) (a : Option Addr) (c : Nat) (g : Ty) (ag : Option Addr) (cg : Nat) (k n : Nat) (w : World) (hl : LsAt P w d l a c) (hk : k < l.length) (hle : l.length < 1000) (hn : n < 1000) :
    Calls Try.prog 87 #[vsq l a c g ag cg, .int .i64 (k : Int), .int .i64 (n : Int)] w fun e w' => TakeQ (takeP l g k n l[k].kind) (takeN k n l[k].kind) ⟨a, c, ag, cg, none, 0⟩ w e w' := by
  obtain ⟨ga, off, rfl, hg⟩ := hl.addr (by omega)
  obtain ⟨a', c', _, y0, y1, y2, hT⟩ := hl.at (j := k) hk
  obtain ⟨kd, hkd⟩ : ∃ kd, l[k].kind = kd := ⟨_, rfl⟩
  rw [hkd] at y0 ⊢
  have hk' : (k : Int) < (l.length : Int) := by omega
  have b1 : (0 : Int) ≤ k ∧ (k : Int) < 1000 := by omega
  have b2 : (0 : Int) ≤ n ∧ (n : Int) < 1000 := by omega
  clear hkd hl hT y1 y2
  unfold vsq
  go_enter Try.func87, Try.ntmps87
  go_upto_region 2 with fail
  obtain ⟨x1, x2, x3, hVs, hVb⟩ := three_boxes w (.cells #[.slice (some ⟨ga, off, none⟩) l.length c, .int .i64 g.kind, .int .i64 g.n, .slice ag g.kids.length cg] 79) (.cells #[.int .i64 0, .slice none 0 0, .int .i64 0, .int .i64 0, .slice none 0 0, .int .i64 0, .int .i64 0, .slice none 0 0] 37) (.cells #[.int .i64 4, .slice (some ⟨ga, off, none⟩) l.length c, .int .i64 g.kind, .int .i64 g.n, .slice ag g.kids.length cg, .int .i64 ((k : Int) + 1), .int .i64 n, .slice none 0 0] 37)
  generalize hV : ((w.alloc (.cells #[.slice (some ⟨ga, off, none⟩) l.length c, .int .i64 g.kind, .int .i64 g.n, .slice ag g.kids.length cg] 79)).alloc (.cells #[.int .i64 0, .slice none 0 0, .int .i64 0, .int .i64 0, .slice none 0 0, .int .i64 0, .int .i64 0, .slice none 0 0] 37)).alloc (.cells #[.int .i64 4, .slice (some ⟨ga, off, none⟩) l.length c, .int .i64 g.kind, .int .i64 g.n, .slice ag g.kids.length cg, .int .i64 ((k : Int) + 1), .int .i64 n, .slice none 0 0] 37) = V at *
  clear hV
  have y0 := (hVb.cell (p := ⟨ga, _, none⟩) hg).trans y0
  have s0 := cell_of_row _ _ 0 _ _ _ x1
  by_cases h3 : kd = 3
  · subst h3
    have m0 := cell_of_row _ _ 0 _ _ _ x3
    have m5 := cell_of_row _ _ 5 _ _ _ x3
    have f0 := frozen_of_row _ _ 0 _ 37 x3
    have f5 := frozen_of_row _ _ 5 _ 37 x3
    go_upto_region 4 with fail
    have h0 := heap_setCell_same V (w.heap.size + 1 + 1) 0 _ 37 (.int .i64 5) x3
    have h5 := heap_setCell_same _ (w.heap.size + 1 + 1) 5 _ 37 (.int .i64 ((k : Int) - n)) h0
    have hrow : ((V.setCell ⟨w.heap.size + 1 + 1, 0, none⟩ (.int .i64 5)).setCell ⟨w.heap.size + 1 + 1, 5, none⟩ (.int .i64 ((k : Int) - n))).heap[w.heap.size + 1 + 1]? = some (.cells #[.int .i64 5, .slice (some ⟨ga, off, none⟩) l.length c, .int .i64 g.kind, .int .i64 g.n, .slice ag g.kids.length cg, .int .i64 ((k : Int) - n), .int .i64 n, .slice none 0 0] 37 (0, 0)) := by simpa using h5
    have hz2 : ((V.setCell ⟨w.heap.size + 1 + 1, 0, none⟩ (.int .i64 5)).setCell ⟨w.heap.size + 1 + 1, 5, none⟩ (.int .i64 ((k : Int) - n))).heap[w.heap.size + 1]? = some (.cells #[.int .i64 0, .slice none 0 0, .int .i64 0, .int .i64 0, .slice none 0 0, .int .i64 0, .int .i64 0, .slice none 0 0] 37 (0, 0)) := by
      rw [heap_setCell_other _ _ _ _ (by show w.heap.size + 1 ≠ w.heap.size + 1 + 1; omega), heap_setCell_other _ _ _ _ (by show w.heap.size + 1 ≠ w.heap.size + 1 + 1; omega)]
      exact x2
    have hB1 := (hVb.setCell (p := ⟨w.heap.size + 1 + 1, 0, none⟩) (by show w.heap.size ≤ w.heap.size + 1 + 1; omega) (.int .i64 5)).setCell (p := ⟨w.heap.size + 1 + 1, 5, none⟩) (by show w.heap.size ≤ w.heap.size + 1 + 1; omega) (.int .i64 ((k : Int) - n))
    clear h0 h5 m0 m5 f0 f5
    generalize hV : (V.setCell ⟨w.heap.size + 1 + 1, 0, none⟩ (.int .i64 5)).setCell ⟨w.heap.size + 1 + 1, 5, none⟩ (.int .i64 ((k : Int) - n)) = V1 at *
    clear hV x1 x2 x3
    have p0 := cell_of_row _ _ 0 _ _ _ hrow
    have p1 := cell_of_row _ _ 1 _ _ _ hrow
    have p2 := cell_of_row _ _ 2 _ _ _ hrow
    have p3 := cell_of_row _ _ 3 _ _ _ hrow
    have p4 := cell_of_row _ _ 4 _ _ _ hrow
    have p5 := cell_of_row _ _ 5 _ _ _ hrow
    have p6 := cell_of_row _ _ 6 _ _ _ hrow
    have p7 := cell_of_row _ _ 7 _ _ _ hrow
    have q0 := cell_of_row _ _ 0 _ _ _ hz2
    have q1 := cell_of_row _ _ 1 _ _ _ hz2
    have q2 := cell_of_row _ _ 2 _ _ _ hz2
    have q3 := cell_of_row _ _ 3 _ _ _ hz2
    have q4 := cell_of_row _ _ 4 _ _ _ hz2
    have q5 := cell_of_row _ _ 5 _ _ _ hz2
    have q6 := cell_of_row _ _ 6 _ _ _ hz2
    have q7 := cell_of_row _ _ 7 _ _ _ hz2
    have e0 := frozen_of_row _ _ 0 _ 37 hz2
    have e1 := frozen_of_row _ _ 1 _ 37 hz2
    have e2 := frozen_of_row _ _ 2 _ 37 hz2
    have e3 := frozen_of_row _ _ 3 _ 37 hz2
    have e4 := frozen_of_row _ _ 4 _ 37 hz2
    have e5 := frozen_of_row _ _ 5 _ 37 hz2
    have e6 := frozen_of_row _ _ 6 _ 37 hz2
    have e7 := frozen_of_row _ _ 7 _ 37 hz2
    go_wp2_with fail
    refine bodyPost_ret (results_37 rfl _ _ (w.heap.size + 1) _ rfl (laid8 hz2 _ _ _ _ _ _ _ _) rfl) rfl ?_
    dsimp only
    rw [show takeP l g k n 3 = ⟨5, l, g, (k : Int) - n, n, []⟩ from rfl, show takeN k n 3 = (k : Int) - n from rfl]
    exact ⟨rfl, below8 hB1 (by omega) _ _ _ _ _ _ _ _⟩
  · skip
    have hrow := x3
    have hz2 := x2
    have p0 := cell_of_row _ _ 0 _ _ _ hrow
    have p1 := cell_of_row _ _ 1 _ _ _ hrow
    have p2 := cell_of_row _ _ 2 _ _ _ hrow
    have p3 := cell_of_row _ _ 3 _ _ _ hrow
    have p4 := cell_of_row _ _ 4 _ _ _ hrow
    have p5 := cell_of_row _ _ 5 _ _ _ hrow
    have p6 := cell_of_row _ _ 6 _ _ _ hrow
    have p7 := cell_of_row _ _ 7 _ _ _ hrow
    have q0 := cell_of_row _ _ 0 _ _ _ hz2
    have q1 := cell_of_row _ _ 1 _ _ _ hz2
    have q2 := cell_of_row _ _ 2 _ _ _ hz2
    have q3 := cell_of_row _ _ 3 _ _ _ hz2
    have q4 := cell_of_row _ _ 4 _ _ _ hz2
    have q5 := cell_of_row _ _ 5 _ _ _ hz2
    have q6 := cell_of_row _ _ 6 _ _ _ hz2
    have q7 := cell_of_row _ _ 7 _ _ _ hz2
    have e0 := frozen_of_row _ _ 0 _ 37 hz2
    have e1 := frozen_of_row _ _ 1 _ 37 hz2
    have e2 := frozen_of_row _ _ 2 _ 37 hz2
    have e3 := frozen_of_row _ _ 3 _ 37 hz2
    have e4 := frozen_of_row _ _ 4 _ 37 hz2
    have e5 := frozen_of_row _ _ 5 _ 37 hz2
    have e6 := frozen_of_row _ _ 6 _ 37 hz2
    have e7 := frozen_of_row _ _ 7 _ 37 hz2
    go_wp2_with fail
    refine bodyPost_ret (results_37 rfl _ _ (w.heap.size + 1) _ rfl (laid8 hz2 _ _ _ _ _ _ _ _) rfl) rfl ?_
    dsimp only
    rw [show takeP l g k n kd = ⟨4, l, g, (k : Int) + 1, n, []⟩ from if_neg h3, show takeN k n kd = k from if_neg h3]
    exact ⟨rfl, below8 hVb (by omega) _ _ _ _ _ _ _ _⟩
end Go.Proofs.Ytbmgkgoghgdbhaa.Te
/- The search from a part, step by step, in plain words; proofs put together. No conditions. -/
namespace Go.Proofs.Ytbmgkgoghgdbhaa.Te
open Go.RowKit

theorem mid_take {A B : List Ty} {x : Ty} : (A ++ [x] ++ B).take A.length = A := by simp
theorem mid_drop {A B : List Ty} {x : Ty} : (A ++ [x] ++ B).drop (A.length + 1) = B := by
  rw [List.drop_append_of_le_length (by simp)]
  simp
theorem mid_get {A B : List Ty} {x : Ty} (h : A.length < (A ++ [x] ++ B).length) : (A ++ [x] ++ B)[A.length] = x := by simp
theorem from_ov {l : List Ty} {k : Nat} {x y g : Ty} : EH (l.take k) (ov x y) (l.drop (k + 1)) g ↔ ∃ n, 1 ≤ n ∧ k + 1 + n ≤ l.length ∧ E ((l.drop (k + 1)).take n) y ∧ EH (l.take k) x (l.drop (k + 1 + n)) g := by
  constructor
  · intro h
    rcases EH_inv h with ⟨q, e, e2, _⟩ | ⟨x', y', D, B', e, e2, e3, h1, h2⟩ | ⟨y', x', A', D, e, _⟩
    · exact (ov_bs (e.trans e2)).elim
    · obtain ⟨rfl, rfl⟩ := ov_inj e
      have hd : (l.drop (k + 1)).length = D.length + B'.length := by rw [e2, List.length_append]
      rw [List.length_drop] at hd
      have hD : 0 < D.length := List.length_pos_iff.2 e3
      refine ⟨D.length, hD, by omega, ?_, ?_⟩
      · rw [e2, List.take_left]
        exact h1
      · rw [← List.drop_drop, e2, List.drop_left]
        exact h2
    · exact (ov_un e).elim
  · rintro ⟨n, h1, h2, h3, h4⟩
    have := EH_ov (by
      intro e
      have := congrArg List.length e
      rw [List.length_take, List.length_drop, List.length_nil] at this
      omega) h3 h4
    rw [show l.drop (k + 1 + n) = (l.drop (k + 1)).drop n from by rw [List.drop_drop], List.take_append_drop] at this
    exact this
theorem from_un {l : List Ty} {k : Nat} {x y g : Ty} (hk : k < l.length) : EH (l.take k) (un y x) (l.drop (k + 1)) g ↔ ∃ n, 1 ≤ n ∧ n ≤ k ∧ E ((l.drop (k - n)).take n) y ∧ EH (l.take (k - n)) x (l.drop (k + 1)) g := by
  constructor
  · intro h
    rcases EH_inv h with ⟨q, e, e2, _⟩ | ⟨x', y', D, B', e, e2, e3, h1, h2⟩ | ⟨y', x', A', D, e, e2, e3, h1, h2⟩
    · exact (un_bs (e.trans e2)).elim
    · exact (ov_un e.symm).elim
    · obtain ⟨rfl, rfl⟩ := un_inj e
      have hd : (l.take k).length = A'.length + D.length := by rw [e2, List.length_append]
      rw [List.length_take] at hd
      have hD : 0 < D.length := List.length_pos_iff.2 e3
      have hk' : k - D.length = A'.length := by omega
      refine ⟨D.length, hD, by omega, ?_, ?_⟩
      · rw [hk', show (l.drop A'.length).take D.length = (l.take (A'.length + D.length)).drop A'.length by rw [List.drop_take, Nat.add_sub_cancel_left], show A'.length + D.length = k by omega, e2, List.drop_left]
        exact h1
      · rw [hk', show l.take A'.length = (l.take k).take A'.length by rw [List.take_take]; congr 1; omega, e2, List.take_left]
        exact h2
  · rintro ⟨n, h1, h2, h3, h4⟩
    have := EH_un (by
      intro e
      have := congrArg List.length e
      rw [List.length_take, List.length_drop, List.length_nil] at this
      omega) h3 h4
    rw [show l.take (k - n) ++ (l.drop (k - n)).take n = l.take k by
      rw [show (l.drop (k - n)).take n = (l.take k).drop (k - n) by rw [List.drop_take]; congr 1; omega, show l.take (k - n) = (l.take k).take (k - n) by rw [List.take_take]; congr 1; omega, List.take_append_drop]] at this
    exact this
def takeK (l : List Ty) (g : Ty) (k n : Nat) (kd : Int) (ks : List Pf) : Pf := if kd = 3 then ⟨5, l, g, (k : Int) - n, n, ks⟩ else ⟨4, l, g, (k : Int) + 1, n, ks⟩
theorem takeP_K (l : List Ty) (g : Ty) (k n : Nat) (kd : Int) : takeP l g k n kd = takeK l g k n kd [] := rfl
theorem bef_take_ov {l : List Ty} {g : Ty} {k n : Nat} {ks : List Pf} {x y : Ty} (hk : k < l.length) (e : l[k] = ov x y) (h1 : 1 ≤ n) (h2 : k + 1 + n ≤ l.length) : bef (takeK l g k n 2 ks) = some [((l.drop (k + 1)).take n, y), (l.take k ++ [x] ++ l.drop (k + 1 + n), g)] := by
  rw [show takeK l g k n 2 ks = ⟨4, l, g, ((k + 1 : Nat) : Int), n, ks⟩ from by unfold takeK; rw [if_neg (by decide)]; congr 1]
  rw [bef_two (.inl rfl), bef2_4 h1 h2 hk rfl (by rw [e]; rfl), e]
  rfl
theorem bef_take_ov0 {l : List Ty} {g : Ty} {k n : Nat} {ks : List Pf} (h2 : ¬ k + 1 + n ≤ l.length) : bef (takeK l g k n 2 ks) = none := by
  rw [show takeK l g k n 2 ks = ⟨4, l, g, (k : Int) + 1, n, ks⟩ from by unfold takeK; rw [if_neg (by decide)]]
  rw [bef_two (.inl rfl)]
  unfold bef2
  rw [if_pos (by dsimp only; omega)]
theorem bef_take_un {l : List Ty} {g : Ty} {k n : Nat} {ks : List Pf} {x y : Ty} (hk : k < l.length) (e : l[k] = un y x) (h1 : 1 ≤ n) (h2 : n ≤ k) : bef (takeK l g k n 3 ks) = some [((l.drop (k - n)).take n, y), (l.take (k - n) ++ [x] ++ l.drop (k + 1), g)] := by
  rw [show takeK l g k n 3 ks = ⟨5, l, g, ((k - n : Nat) : Int), n, ks⟩ from by unfold takeK; rw [if_pos rfl]; congr 1; omega]
  rw [bef_two (.inr (.inl rfl)), bef2_5 (t := un y x) (B := l.drop (k + 1)) h1 (by omega) (by rw [show k - n + n = k by omega, List.drop_eq_getElem_cons hk, e]) rfl]
  rfl
theorem bef_take_un0 {l : List Ty} {g : Ty} {k n : Nat} {ks : List Pf} (h2 : ¬ n ≤ k) : bef (takeK l g k n 3 ks) = none := by
  rw [show takeK l g k n 3 ks = ⟨5, l, g, (k : Int) - n, n, ks⟩ from by unfold takeK; rw [if_pos rfl]]
  rw [bef_two (.inr (.inl rfl))]
  unfold bef2
  rw [if_pos (by dsimp only; omega)]
/-- a right proof without cuts, of a sequent -/
def Good (l : List Ty) (g : Ty) (p : Pf) : Prop := p.left = l ∧ p.goal = g ∧ Rt p ∧ noCut p
theorem good_two {l : List Ty} {g : Ty} {k n : Nat} {kd : Int} {l1 l2 : List Ty} {g1 g2 : Ty} {p1 p2 : Pf} (hb : ∀ ks, bef (takeK l g k n kd ks) = some [(l1, g1), (l2, g2)]) (h1 : Good l1 g1 p1) (h2 : Good l2 g2 p2) : Good l g (takeK l g k n kd [p1, p2]) := by
  have hk : (takeK l g k n kd [p1, p2]).kids = [p1, p2] := by unfold takeK; split <;> rfl
  refine ⟨by unfold takeK; split <;> rfl, by unfold takeK; split <;> rfl, ?_, ?_⟩
  · rw [Rt]
    refine ⟨_, hb _, by rw [hk]; rfl, fun j hj hj' => ?_⟩
    have hj2 : j = 0 ∨ j = 1 := by rw [hk] at hj; simp at hj; omega
    rcases hj2 with rfl | rfl
    · simp only [hk, List.getElem_cons_zero]
      exact ⟨h1.1, h1.2.1, h1.2.2.1⟩
    · simp only [hk, List.getElem_cons_succ, List.getElem_cons_zero]
      exact ⟨h2.1, h2.2.1, h2.2.2.1⟩
  · rw [noCut]
    refine ⟨?_, fun ⟨x, hx⟩ => ?_⟩
    · unfold takeK; split <;> simp
    · show noCut x
      rw [hk] at hx
      simp only [List.mem_cons, List.not_mem_nil, or_false] at hx
      rcases hx with e | e
      · rw [e]; exact h1.2.2.2
      · rw [e]; exact h2.2.2.2
theorem good_same {k : Int} : Good [bs k] (bs k) ⟨1, [bs k], bs k, 0, 0, []⟩ := by
  refine ⟨rfl, rfl, ?_, ?_⟩
  · rw [Rt]
    exact ⟨[], (bef_same (by simp)).1 rfl, rfl, fun j hj => by simp at hj⟩
  · rw [noCut]
    exact ⟨by simp, fun ⟨x, hx⟩ => by cases hx⟩
theorem good_one {l l1 : List Ty} {g g1 : Ty} {st : Int} {p1 : Pf} (hs : st = 2 ∨ st = 3) (hb : ∀ ks, bef ⟨st, l, g, 0, 0, ks⟩ = some [(l1, g1)]) (h1 : Good l1 g1 p1) : Good l g ⟨st, l, g, 0, 0, [p1]⟩ := by
  refine ⟨rfl, rfl, ?_, ?_⟩
  · rw [Rt]
    refine ⟨_, hb _, rfl, fun j hj hj' => ?_⟩
    have hj2 : j = 0 := by simp at hj; omega
    subst hj2
    exact ⟨h1.1, h1.2.1, h1.2.2.1⟩
  · rw [noCut]
    refine ⟨by rcases hs with rfl | rfl <;> simp, fun ⟨x, hx⟩ => ?_⟩
    show noCut x
    simp only [List.mem_cons, List.not_mem_nil, or_false] at hx
    rw [hx]
    exact h1.2.2.2
theorem szs_app (l m : List Ty) : szs (l ++ m) = szs l + szs m := by simp [szs]
theorem szs_cons (x : Ty) (l : List Ty) : szs (x :: l) = sz x + szs l := by simp [szs]
theorem szs_nil : szs [] = 0 := rfl
theorem sz_pos (x : Ty) : 1 ≤ sz x := by rw [sz]; omega
theorem szs_len (l : List Ty) : l.length ≤ szs l := by
  induction l with
  | nil => simp
  | cons x l ih => rw [szs_cons, List.length_cons]; have := sz_pos x; omega
theorem szs_split {l : List Ty} {k : Nat} (hk : k < l.length) : szs l = szs (l.take k) + sz l[k] + szs (l.drop (k + 1)) := by
  have e : l = l.take k ++ l[k] :: l.drop (k + 1) := by rw [← List.drop_eq_getElem_cons hk, List.take_append_drop]
  have := congrArg szs e
  rw [szs_app, szs_cons] at this
  omega
theorem szs_cut (l : List Ty) (n : Nat) : szs l = szs (l.take n) + szs (l.drop n) := by rw [← szs_app, List.take_append_drop]
/-- what stands around is less -/
theorem less_ov {l : List Ty} {k n : Nat} {x y : Ty} (hk : k < l.length) (e : l[k] = ov x y) : szs ((l.drop (k + 1)).take n) + sz y < szs l ∧ szs (l.take k ++ [x] ++ l.drop (k + 1 + n)) < szs l := by
  have h1 := szs_split hk
  rw [e, sz_ov] at h1
  have h2 := szs_cut (l.drop (k + 1)) n
  rw [List.drop_drop] at h2
  rw [szs_app, szs_app, szs_cons, szs_nil]
  have := sz_pos x
  have := sz_pos y
  omega
theorem less_un {l : List Ty} {k n : Nat} {x y : Ty} (hk : k < l.length) (hn : n ≤ k) (e : l[k] = un y x) : szs ((l.drop (k - n)).take n) + sz y < szs l ∧ szs (l.take (k - n) ++ [x] ++ l.drop (k + 1)) < szs l := by
  have h1 := szs_split hk
  rw [e, sz_un] at h1
  have h2 := szs_cut (l.take k) (k - n)
  rw [List.drop_take, List.take_take, show k - (k - n) = n by omega, show min (k - n) k = k - n by omega] at h2
  rw [szs_app, szs_app, szs_cons, szs_nil]
  have := sz_pos x
  have := sz_pos y
  omega
theorem gp_ov {x y : Ty} (h : Gp (ov x y)) : Gp x ∧ Gp y := by
  rcases gp_cases h with ⟨_, h, _⟩ | ⟨x', y', h, h1, h2⟩ | ⟨_, _, h, _⟩
  · exact (ov_bs h).elim
  · obtain ⟨rfl, rfl⟩ := ov_inj h
    exact ⟨h1, h2⟩
  · exact (ov_un h).elim
theorem gp_un {x y : Ty} (h : Gp (un y x)) : Gp x ∧ Gp y := by
  rcases gp_cases h with ⟨_, h, _⟩ | ⟨x', y', h, h1, h2⟩ | ⟨y', x', h, h1, h2⟩
  · exact (un_bs h).elim
  · exact (ov_un h.symm).elim
  · obtain ⟨rfl, rfl⟩ := un_inj h
    exact ⟨h2, h1⟩
end Go.Proofs.Ytbmgkgoghgdbhaa.Te
/- What prove and proveFrom are to answer; the search from a part as a list of tries. No conditions. -/
namespace Go.Proofs.Ytbmgkgoghgdbhaa.Te
open Go.RowKit

/-- what is answered: a proof, if there is one -/
def PrQ (P : Nat → Prop) (d : Nat) (l : List Ty) (g : Ty) (r : Bool) (w : World) (e : Ending) (w' : World) : Prop := ∃ p x, e = .returned (.tuple #[vpf p x, .bool r]) ∧ Below w.heap.size w w' ∧ (r = true → ∃ e0, PfAt P w' d e0 p x ∧ Good l g p)
def ProveOk (d M : Nat) : Prop := ∀ (P : Nat → Prop) (l : List Ty) (a : Option Addr) (c : Nat) (g : Ty) (ag : Option Addr) (cg : Nat) (w : World) (r : Bool), szs l + sz g ≤ M → (∀ q, w.heap.size ≤ q → P q) → LsAt P w d l a c → TyP P w d g ag cg → (∀ t ∈ l, Gp t) → Gp g → l ≠ [] → (r = true ↔ E l g) → Calls Try.prog 54 #[vsq l a c g ag cg] w fun e w' => PrQ P d l g r w e w'
def FromOk (d M : Nat) : Prop := ∀ (P : Nat → Prop) (l : List Ty) (a : Option Addr) (c : Nat) (b : Int) (ag : Option Addr) (cg k : Nat) (hk : k < l.length) (w : World) (r : Bool), szs l + 1 ≤ M → (∀ q, w.heap.size ≤ q → P q) → LsAt P w d l a c → TyP P w d (bs b) ag cg → (∀ t ∈ l, Gp t) → Gp (bs b) → (r = true ↔ EH (l.take k) l[k] (l.drop (k + 1)) (bs b)) → Calls Try.prog 73 #[vsq l a c (bs b) ag cg, .int .i64 (k : Int)] w fun e w' => PrQ P d l (bs b) r w e w'
/-- the tries from a part: with n parts beside it -/
structure Sr (l : List Ty) (g : Ty) (k : Nat) (kd : Int) (r : Bool) (ok : Nat → Prop) (D L : Nat → List Ty) (y : Ty) (t : Nat → Nat) : Prop where
  some : ∀ n ks, 1 ≤ n → ok n → bef (takeK l g k n kd ks) = Option.some [(D n, y), (L n, g)]
  none : ∀ n ks, 1 ≤ n → ¬ ok n → bef (takeK l g k n kd ks) = Option.none
  thn : ∀ n, 1 ≤ n → ok n → takeN k n kd = (t n : Int) ∧ t n < (L n).length
  res : r = true ↔ ∃ n, 1 ≤ n ∧ ok n ∧ E (D n) y ∧ ∃ h : t n < (L n).length, EH ((L n).take (t n)) (L n)[t n] ((L n).drop (t n + 1)) g
  down : ∀ n n', n ≤ n' → ok n' → ok n
  len : ∀ n, ok n → n < l.length
  sd : ∀ n, ok n → szs (D n) + sz y < szs l
  sl : ∀ n, ok n → szs (L n) < szs l
  gd : ∀ n, ok n → ∀ t ∈ D n, Gp t
  gy : Gp y
  gl : ∀ n, ok n → ∀ t ∈ L n, Gp t
  ne : ∀ n, 1 ≤ n → ok n → D n ≠ []
theorem mem_sub {l : List Ty} {i n : Nat} {t : Ty} (h : t ∈ (l.drop i).take n) : t ∈ l := List.mem_of_mem_drop (List.mem_of_mem_take h)
theorem sr_ov {l : List Ty} {g x y : Ty} {k : Nat} {r : Bool} (hk : k < l.length) (e : l[k] = ov x y) (gl : ∀ t ∈ l, Gp t) (hr : r = true ↔ EH (l.take k) l[k] (l.drop (k + 1)) g) :
    Sr l g k 2 r (fun n => k + 1 + n ≤ l.length) (fun n => (l.drop (k + 1)).take n) (fun n => l.take k ++ [x] ++ l.drop (k + 1 + n)) y (fun _ => k) := by
  have hg := gp_ov (by rw [← e]; exact gl _ (List.getElem_mem _))
  have hkl : (l.take k).length = k := by rw [List.length_take]; omega
  have hL : ∀ n, k < (l.take k ++ [x] ++ l.drop (k + 1 + n)).length := fun n => by simp; omega
  refine ⟨fun n ks h1 h2 => bef_take_ov hk e h1 h2, fun n ks _ h2 => bef_take_ov0 h2, fun n _ _ => ⟨rfl, hL n⟩, ?_, fun n n' h h' => by omega, fun n h => by omega, fun n _ => (less_ov hk e).1, fun n _ => (less_ov hk e).2, fun n _ t ht => gl t (mem_sub ht), hg.2, ?_, ?_⟩
  · rw [hr, e, from_ov]
    constructor
    · rintro ⟨n, h1, h2, h3, h4⟩
      refine ⟨n, h1, h2, h3, hL n, ?_⟩
      have q1 := mid_take (A := l.take k) (B := l.drop (k + 1 + n)) (x := x)
      have q2 := mid_drop (A := l.take k) (B := l.drop (k + 1 + n)) (x := x)
      have q3 := mid_get (A := l.take k) (B := l.drop (k + 1 + n)) (x := x) (by rw [hkl]; exact hL n)
      simp only [hkl] at q1 q2 q3
      rw [q1, q2, q3]
      exact h4
    · rintro ⟨n, h1, h2, h3, _, h4⟩
      refine ⟨n, h1, h2, h3, ?_⟩
      have q1 := mid_take (A := l.take k) (B := l.drop (k + 1 + n)) (x := x)
      have q2 := mid_drop (A := l.take k) (B := l.drop (k + 1 + n)) (x := x)
      have q3 := mid_get (A := l.take k) (B := l.drop (k + 1 + n)) (x := x) (by rw [hkl]; exact hL n)
      simp only [hkl] at q1 q2 q3
      rw [q1, q2, q3] at h4
      exact h4
  · intro n _ t ht
    simp only [List.mem_append, List.mem_cons, List.not_mem_nil, or_false] at ht
    rcases ht with (ht | rfl) | ht
    · exact gl t (List.mem_of_mem_take ht)
    · exact hg.1
    · exact gl t (List.mem_of_mem_drop ht)
  · intro n h1 h2 e'
    have := congrArg List.length e'
    simp at this
    omega
theorem sr_un {l : List Ty} {g x y : Ty} {k : Nat} {r : Bool} (hk : k < l.length) (e : l[k] = un y x) (gl : ∀ t ∈ l, Gp t) (hr : r = true ↔ EH (l.take k) l[k] (l.drop (k + 1)) g) :
    Sr l g k 3 r (fun n => n ≤ k) (fun n => (l.drop (k - n)).take n) (fun n => l.take (k - n) ++ [x] ++ l.drop (k + 1)) y (fun n => k - n) := by
  have hg := gp_un (by rw [← e]; exact gl _ (List.getElem_mem _))
  have hkl : ∀ n, (l.take (k - n)).length = k - n := fun n => by rw [List.length_take]; omega
  have hL : ∀ n, k - n < (l.take (k - n) ++ [x] ++ l.drop (k + 1)).length := fun n => by simp; omega
  refine ⟨fun n ks h1 h2 => bef_take_un hk e h1 h2, fun n ks _ h2 => bef_take_un0 h2, fun n _ h => ⟨by show (k : Int) - n = _; omega, hL n⟩, ?_, fun n n' h h' => by omega, fun n h => by omega, fun n h => (less_un hk h e).1, fun n h => (less_un hk h e).2, fun n _ t ht => gl t (mem_sub ht), hg.2, ?_, ?_⟩
  · rw [hr, e, from_un hk]
    constructor
    · rintro ⟨n, h1, h2, h3, h4⟩
      refine ⟨n, h1, h2, h3, hL n, ?_⟩
      have q1 := mid_take (A := l.take (k - n)) (B := l.drop (k + 1)) (x := x)
      have q2 := mid_drop (A := l.take (k - n)) (B := l.drop (k + 1)) (x := x)
      have q3 := mid_get (A := l.take (k - n)) (B := l.drop (k + 1)) (x := x) (by rw [hkl]; exact hL n)
      simp only [hkl] at q1 q2 q3
      rw [q1, q2, q3]
      exact h4
    · rintro ⟨n, h1, h2, h3, _, h4⟩
      refine ⟨n, h1, h2, h3, ?_⟩
      have q1 := mid_take (A := l.take (k - n)) (B := l.drop (k + 1)) (x := x)
      have q2 := mid_drop (A := l.take (k - n)) (B := l.drop (k + 1)) (x := x)
      have q3 := mid_get (A := l.take (k - n)) (B := l.drop (k + 1)) (x := x) (by rw [hkl]; exact hL n)
      simp only [hkl] at q1 q2 q3
      rw [q1, q2, q3] at h4
      exact h4
  · intro n _ t ht
    simp only [List.mem_append, List.mem_cons, List.not_mem_nil, or_false] at ht
    rcases ht with (ht | rfl) | ht
    · exact gl t (List.mem_of_mem_take ht)
    · exact hg.1
    · exact gl t (List.mem_of_mem_drop ht)
  · intro n h1 h2 e'
    have := congrArg List.length e'
    simp at this
    omega
theorem takeK_is {l : List Ty} {g : Ty} {k n : Nat} {kd : Int} (hk : k < 1000) (hn : n < 1000) : ∃ st ix : Int, (∀ ks, takeK l g k n kd ks = ⟨st, l, g, ix, n, ks⟩) ∧ i64B st ∧ i64B ix := by
  unfold takeK
  by_cases h : kd = 3
  · exact ⟨5, (k : Int) - n, fun ks => if_pos h, by constructor <;> omega, by constructor <;> omega⟩
  · exact ⟨4, (k : Int) + 1, fun ks => if_neg h, by constructor <;> omega, by constructor <;> omega⟩
/-- a step with no kids yet, as it lies -/
theorem pf_bare {P : Nat → Prop} {w : World} {d : Nat} {l : List Ty} {g : Ty} {a ag : Option Addr} {c cg : Nat} {st ix n : Int} (hl : LsAt P w d l a c) (hg : TyP P w d g ag cg) (h1 : i64B st) (h2 : i64B ix) (h3 : i64B n) : PfAt P w d 1 ⟨st, l, g, ix, n, []⟩ ⟨a, c, ag, cg, none, 0⟩ := ⟨h1, h2, h3, hl, hg, by simp, .inl rfl⟩
theorem prQ_false {P : Nat → Prop} {d : Nat} {l : List Ty} {g : Ty} {w w' : World} {cs : Array Value} (h : Below w.heap.size w w') (p : Pf) (x : Pl) (hc : .agg cs = vpf p x) : PrQ P d l g false w (.returned (.tuple #[.agg cs, .bool false])) w' := ⟨p, x, by rw [hc], h, fun h => by cases h⟩
end Go.Proofs.Ytbmgkgoghgdbhaa.Te
